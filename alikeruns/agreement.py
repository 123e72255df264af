"""Agreement: a program that is right, or a chain of runs which proves that there is none. [32] [34] [36]"""

from alikeruns.bounds import MOST_FEWEST
from alikeruns.checks import is_number
from alikeruns.errors import BadValue
from alikeruns.sightings import Sightings, asked_sights


def agree(world, rounds, *, sights=None):
    """A right program that decides at the sights, or a shortest chain that holds for them. [32]"""
    sightings = Sightings(world, rounds)
    return agreed(sightings, asked_sights(sightings, sights, 3))


def fewest_rounds(world, most):
    """The least number of rounds in which all live nodes can decide, a program, and chains for all less. [36]"""
    if not is_number(most, 0, MOST_FEWEST):
        raise BadValue(2)
    chains = []
    for rounds in range(most + 1):
        sightings = Sightings(world, rounds)
        word, found = agreed(sightings, sightings.last_sights())
        if word == "program":
            return (rounds, found, tuple(chains))
        chains.append(found)
    return (None, None, tuple(chains))


def agreed(sightings, asked):
    """A right program of just the sights that are asked for, or a shortest chain that holds for them."""
    left = sightings.runs_with(asked)
    links = _links_from_zeros(sightings, left)
    ends = [place for place in links if sightings.all_alike(place, 1)]
    if ends:
        return ("chain", _chain_to(sightings, links, ends[0]))
    # A sight that was not passed is in no run that is linked to one of inputs
    # 0 only, so 1 is an input wherever its value has to be decided.
    program = [(sightings.views.sights[number], 1 if number in left else 0) for number in sorted(asked)]
    return ("program", tuple(program))


def _links_from_zeros(sightings, left):
    """How the runs that are linked to one of inputs 0 only are reached, nearest first.

    For each run a triple: the run before it, and the node and the time of the
    link; None for a run to begin with. The sights on the way are taken out of
    left, which has the runs that show each sight.
    """
    links = {place: None for place in range(len(sightings.runs)) if sightings.all_alike(place, 0)}
    fresh = list(links)
    while fresh:
        later = []
        for place in fresh:
            for other, link in _linked_to(sightings, left, place):
                if other not in links:
                    links[other] = link
                    later.append(other)
        fresh = later
    return links


def _linked_to(sightings, left, place):
    """The pairs (run, link) for all runs that share a sight with a run, if the sight is still left."""
    found = []
    for time, seen in enumerate(sightings.histories[place]):
        for node, number in enumerate(seen):
            if number in left:
                shown = left.pop(number)
                found.extend([(other, (place, node, time)) for other in shown])
    return found


def _chain_to(sightings, links, end):
    """The chain of the runs through which a run is reached."""
    runs = [sightings.runs[end]]
    pairs = []
    link = links[end]
    while link is not None:
        place, node, time = link
        runs.append(sightings.runs[place])
        pairs.append((node, time))
        link = links[place]
    return (tuple(runs[::-1]), tuple(pairs[::-1]))
