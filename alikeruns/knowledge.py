"""Facts, what nodes know, and which runs are linked. [40] [41]"""

from alikeruns.bounds import MOST_DEEP
from alikeruns.checks import is_integer, is_number, is_sequence
from alikeruns.errors import BadValue
from alikeruns.runs import checked_run, states_of
from alikeruns.sightings import Sightings


def is_fact(world, value):
    """Whether the value is a fact. [40]"""
    return _is_fact(world, value, MOST_DEEP)


def holds(world, run, fact):
    """Whether the fact holds at the last time of the run. [40]"""
    inputs, moves = checked_run(world, run)
    if not is_fact(world, fact):
        raise BadValue(3)
    last = states_of(world, (inputs, moves))[-1]
    return _holds(fact, inputs, world.states[last])


def knows(world, run, node, fact):
    """Whether the fact holds in every run of the same length that looks alike to the node at the last time. [40]"""
    checked = checked_run(world, run)
    if not is_fact(world, fact):
        raise BadValue(4)
    last = states_of(world, checked)[-1]
    if not is_number(node, 0, world.nodes - 1) or node not in world.states[last][1]:
        raise BadValue(3)
    sightings = Sightings(world, len(checked[1]))
    seen = sightings.histories[sightings.runs.index(checked)][-1][node]
    alike = [place for place, history in enumerate(sightings.histories) if history[-1][node] == seen]
    return _holds_in_all(world, sightings, alike, fact)


def link(world, one, other):
    """Runs from the one to the other, neighbours looking alike at the end, and to which nodes; or None. [41]"""
    first = checked_run(world, one)
    second = checked_run(world, other)
    if len(first[1]) != len(second[1]):
        raise BadValue(3)
    sightings = Sightings(world, len(first[1]))
    links = _links_from(sightings, sightings.runs.index(first))
    place = sightings.runs.index(second)
    if place not in links:
        return None
    runs = [second]
    nodes = []
    step = links[place]
    while step is not None:
        place, node = step
        runs.append(sightings.runs[place])
        nodes.append(node)
        step = links[place]
    return (tuple(runs[::-1]), tuple(nodes[::-1]))


def common(world, run, fact):
    """Whether the fact holds in every run that is linked to the run. [41]"""
    checked = checked_run(world, run)
    if not is_fact(world, fact):
        raise BadValue(3)
    sightings = Sightings(world, len(checked[1]))
    linked = list(_links_from(sightings, sightings.runs.index(checked)))
    return _holds_in_all(world, sightings, linked, fact)


def _is_fact(world, value, deep):
    """Whether the value is a fact that is at most so deep."""
    if deep == 0 or not is_sequence(value) or len(value) not in (2, 3):
        return False
    word = value[0]
    rest = value[1:]
    if word == "not":
        return len(rest) == 1 and _is_fact(world, rest[0], deep - 1)
    if word == "both":
        return len(rest) == 2 and _is_fact(world, rest[0], deep - 1) and _is_fact(world, rest[1], deep - 1)
    if word == "input":
        return len(rest) == 2 and is_number(rest[0], 0, world.nodes - 1) and is_number(rest[1], 0, 1)
    if len(rest) != 1:
        return False
    if word == "any":
        return is_number(rest[0], 0, 1)
    if word == "live":
        return is_number(rest[0], 0, world.nodes - 1)
    return word == "mark" and is_integer(rest[0])


def _holds(fact, inputs, state):
    """Whether a fact holds with these inputs in this state."""
    word = fact[0]
    if word == "not":
        return not _holds(fact[1], inputs, state)
    if word == "both":
        return _holds(fact[1], inputs, state) and _holds(fact[2], inputs, state)
    if word == "input":
        return inputs[fact[1]] == fact[2]
    if word == "any":
        return fact[1] in inputs
    if word == "live":
        return fact[1] in state[1]
    return state[0] == fact[1]


def _holds_in_all(world, sightings, places, fact):
    """Whether a fact holds at the last time of all runs at some places."""
    for place in places:
        inputs, _ = sightings.runs[place]
        last = sightings.states[place][-1]
        if not _holds(fact, inputs, world.states[last]):
            return False
    return True


def _links_from(sightings, start):
    """How the runs that are linked to the run at a place are reached, nearest first.

    For each run a pair: the run before it, and a node to which both look
    alike at the last time; None for the run itself.
    """
    left = _shown_last(sightings)
    links = {start: None}
    fresh = [start]
    while fresh:
        later = []
        for place in fresh:
            for node, number in enumerate(sightings.histories[place][-1]):
                # Who shares a sight is reached by the first run that shows it.
                for other in left.pop(number, ()):
                    if other not in links:
                        links[other] = (place, node)
                        later.append(other)
        fresh = later
    return links


def _shown_last(sightings):
    """For each sight at the last time the places of the runs that show it then."""
    shown = {}
    for place, history in enumerate(sightings.histories):
        for number in history[-1]:
            if number is not None:
                shown.setdefault(number, []).append(place)
    return shown
