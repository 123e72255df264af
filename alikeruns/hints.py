"""Worlds with the hints of a detector, and what can be made of detectors there. [51] to [54]"""

from alikeruns.bounds import MOST_DETECTORS, MOST_ROUNDS
from alikeruns.changing import changed_views, has_all, read_sight
from alikeruns.checks import is_number, is_sequence
from alikeruns.demands import is_plain_demand
from alikeruns.errors import BadValue, TooMany
from alikeruns.making import made
from alikeruns.pairing import Pairing
from alikeruns.sightings import Sightings
from alikeruns.tables import table_outputs
from alikeruns.views import Views
from alikeruns.worlds import World


def with_hints(world, detector):
    """The world in which the nodes get the outputs of the detector as hints. [51]"""
    return _hinted(world, detector, 2)


def makes(world, rounds, one, other):
    """Whether the outputs of other can be worked out from the sights of the world with the hints of one. [51]"""
    _check_rounds(rounds)
    hinted = _hinted(world, one, 3)
    if not _is_detector(world, other):
        raise BadValue(4)
    return _is_made(hinted, Sightings(hinted, rounds), other)


def changed(sight, table):
    """The sight with the outputs of the table as hints. [52]"""
    views = Views()
    if read_sight(views, {}, sight) is None:
        raise BadValue(1)
    outputs = table_outputs(views, table, 2)
    if not has_all(views, outputs):
        raise BadValue(2)
    news, _ = changed_views(views, outputs)
    # The sight itself stands behind all that are in it.
    return news.sights[-1]


def composed(world, rounds, first, second):
    """The table that outputs at each sight what second does at the sight as changed by first. [52]"""
    views = Sightings(world, rounds).views
    outputs = table_outputs(views, first, 3)
    if not has_all(views, outputs):
        raise BadValue(3)
    news, numbers = changed_views(views, outputs)
    later = table_outputs(news, second, 4)
    if not has_all(news, later):
        raise BadValue(4)
    return tuple([(views.sights[number], later[numbers[number]]) for number in views.later_numbers()])


def order(world, rounds, detectors):
    """For each detector, of each one, whether it makes it. [54]"""
    _check_rounds(rounds)
    if not is_sequence(detectors) or len(detectors) > MOST_DETECTORS:
        raise BadValue(3)
    for detector in detectors:
        _check_taken(world, detector)
    rows = []
    for one in detectors:
        hinted = _hinted(world, one, 3)
        sightings = Sightings(hinted, rounds)
        rows.append(tuple([_is_made(hinted, sightings, other) for other in detectors]))
    return tuple(rows)


def _check_rounds(rounds):
    if not is_number(rounds, 0, MOST_ROUNDS):
        raise BadValue(2)


def _is_detector(world, value):
    """Whether value is a detector for as many nodes as the world has."""
    return is_plain_demand(value) and value.nodes == world.nodes


def _is_made(hinted, sightings, other):
    return made(hinted, sightings, other)[0] == "table"


def _hinted(world, detector, at):
    """The world with the hints of a detector, which is the argument number at."""
    pairing, groups = _paired(world, detector, at)
    numbers = {pairs[0]: number for number, pairs in enumerate(groups) if number > 0}
    states = []
    for pairs in groups:
        mark, live, due, _ = world.states[pairs[0][0]]
        states.append((mark, live, due, pairing.moves(pairs, numbers)))
    return World(world.nodes, states, 0, blind=world.blind)


def _paired(world, detector, at):
    """A pairing, and for each state of the world with hints the pairs for which it stands.

    BadValue(at) if the detector is none, or if there would be a state without a move.
    """
    if not _is_detector(world, detector):
        raise BadValue(at)
    pairing = Pairing(world, detector)
    groups = [pairing.starts] + [[pair] for pair in pairing.reached()]
    for pairs in groups:
        if not any([pairing.nexts(pair) for pair in pairs]):
            raise BadValue(at)
    return (pairing, groups)


def _check_taken(world, detector):
    """BadValue(3) unless there is a world with the hints of the detector, though it may be too large."""
    try:
        _paired(world, detector, 3)
    except TooMany:
        pass
