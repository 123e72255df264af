"""Whether a chain holds. [33]"""

from alikeruns.checks import is_number, is_row, is_sequence
from alikeruns.errors import BadRun
from alikeruns.runs import checked_run
from alikeruns.sightings import Sightings, asked_sights


def chain_holds(world, rounds, chain, *, sights=None):
    """Whether the value chain is a chain that holds for the sights. [33]"""
    sightings = Sightings(world, rounds)
    asked = asked_sights(sightings, sights, 4)
    if not _has_form(chain):
        return False
    runs, links = chain
    histories = []
    for run in runs:
        history = _history(sightings.views, world, rounds, run)
        if history is None:
            return False
        histories.append(history)
    if not _all_inputs_are(runs[0], 0) or not _all_inputs_are(runs[-1], 1):
        return False
    return all([_is_link(asked, histories[place], histories[place + 1], link) for place, link in enumerate(links)])


def _has_form(chain):
    """Whether the value is a pair of sequences of which the first one is longer by one."""
    return is_row(chain, 2) and is_sequence(chain[0]) and is_row(chain[1], len(chain[0]) - 1)


def _history(views, world, rounds, run):
    """For each time of a run the sights of all nodes; None if it is no run of at most rounds moves."""
    try:
        inputs, moves = checked_run(world, run)
    except BadRun:
        return None
    if len(moves) > rounds:
        return None
    history = [views.at_start(world, inputs)]
    state = world.start
    for number in moves:
        move = world.states[state][3][number]
        history.append(views.after_move(history[-1], move))
        state = move[2]
    return history


def _all_inputs_are(run, value):
    inputs = list(run[0])
    return inputs.count(value) == len(inputs)


def _is_link(asked, one, other, link):
    """Whether both histories show one asked sight at the node and the time of a link."""
    if not is_row(link, 2):
        return False
    node, time = link
    most = min(len(one), len(other)) - 1
    if not is_number(time, 0, most) or not is_number(node, 0, len(one[0]) - 1):
        return False
    return one[time][node] in asked and one[time][node] == other[time][node]
