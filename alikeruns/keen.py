"""Programs for agreement that no program beats. [38] [39]"""

from alikeruns.agreement import agreed
from alikeruns.errors import BadValue
from alikeruns.groups import Groups
from alikeruns.programs import first_failure, program_values
from alikeruns.sightings import Sightings, asked_sights


def keen(world, rounds, *, sights=None):
    """A right program that decides at the sights and that no program beats, or a chain. [39]"""
    sightings = Sightings(world, rounds)
    asked = asked_sights(sightings, sights, 3)
    found = agreed(sightings, asked)
    if found[0] == "chain":
        return found
    return agreed(sightings, _widened(sightings, asked))


def beater(world, rounds, program):
    """A program that beats the program, None if there is none. [39]"""
    sightings = Sightings(world, rounds)
    values = program_values(sightings, program)
    if first_failure(sightings, values, {}) is not None:
        raise BadValue(3)
    wider = _widened(sightings, values)
    if len(wider) == len(values):
        return None
    return agreed(sightings, wider)[1]


def _widened(sightings, asked):
    """The asked sights, and more by which nodes have not decided, until each further one would make a chain.

    One that would make a chain now would make one with more sights, too, so
    each has to be tried only once.
    """
    befores = sightings.views.befores
    where = sightings.runs_with(list(range(len(befores))))
    groups = Groups(sightings)
    for number in asked:
        groups.unite(where[number])
    wider = {number: True for number in asked}
    decided = {}
    for number, before in enumerate(befores):
        if number in wider or before in decided:
            decided[number] = True
        elif groups.unite(where[number]):
            decided[number] = True
            wider[number] = True
    return wider
