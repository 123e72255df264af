"""Detectors that are given, and detectors that are late. [47] to [50]"""

from alikeruns.bounds import MOST_NODES, MOST_ROWS, MOST_STATES, MOST_WAIT
from alikeruns.checks import is_number
from alikeruns.demands import Demand, is_plain_demand
from alikeruns.errors import BadValue, TooMany


def perfect(nodes):
    """A live node suspects exactly the stopped nodes. [47]"""
    _check_nodes(nodes)
    rows = [(mark, _boxes(nodes, mark, (mark,)), 0) for mark in range(1 << nodes)]
    return Demand(nodes, 1 << nodes, [rows], [0])


def cautious(nodes):
    """A live node suspects only stopped nodes. [47]"""
    _check_nodes(nodes)
    marks = range(1 << nodes)
    rows = []
    for mark in marks:
        within = tuple([suspected for suspected in marks if suspected & ~mark == 0])
        rows.append((mark, _boxes(nodes, mark, within), 0))
    return Demand(nodes, 1 << nodes, [rows], [0])


def complete(nodes):
    """A live node suspects at least the stopped nodes. [47]"""
    _check_nodes(nodes)
    rows = [(mark, _boxes(nodes, mark, _suspecting(nodes, mark, 0)), 0) for mark in range(1 << nodes)]
    return Demand(nodes, 1 << nodes, [rows], [0])


def trusting(nodes):
    """A live node suspects at least the stopped nodes, and never some one node that is not stopped. [48]"""
    _check_nodes(nodes)
    states = []
    for trusted in range(nodes):
        never = 1 << trusted
        rows = [(mark, _boxes(nodes, mark, _suspecting(nodes, mark, never)), trusted)
                for mark in range(1 << nodes) if mark & never == 0]
        states.append(rows)
    return Demand(nodes, 1 << nodes, states, list(range(nodes)))


def leaders(nodes, wait):
    """All live nodes output one live node, but in at most wait rounds. [49]"""
    _check_nodes(nodes)
    _check_wait(wait)
    every = tuple(range(nodes))
    states = []
    for count in range(wait + 1):
        rows = []
        for mark in range(1 << nodes):
            live = [node for node in every if not _names(mark, node)]
            if not live:
                rows.append((mark, (None,) * nodes, count))
            rows.extend([(mark, _boxes(nodes, mark, (leader,)), count) for leader in live])
            if live and count < wait:
                rows.append((mark, _boxes(nodes, mark, every), count + 1))
        states.append(rows)
    return Demand(nodes, nodes, states, [0])


def late(detector, wait):
    """The detector that may output anything in the first wait rounds. [50]"""
    if not is_plain_demand(detector):
        raise BadValue(1)
    _check_wait(wait)
    if wait == 0:
        return detector
    if wait + len(detector.states) > MOST_STATES:
        raise TooMany("states")
    starts = [wait + start for start in detector.starts[0]]
    labels = _labels(detector)
    if len(labels) * len(starts) > MOST_ROWS:
        raise TooMany("rows")
    every = tuple(range(detector.outs))
    states = []
    for count in range(wait):
        nexts = starts if count == wait - 1 else [count + 1]
        states.append([(mark, tuple([every if live else None for live in lives]), to)
                       for mark, lives in labels for to in nexts])
    for rows in detector.states:
        states.append([(mark, boxes, wait + to) for mark, boxes, to in rows])
    return Demand(detector.nodes, detector.outs, states, [0])


def _check_nodes(nodes):
    if not is_number(nodes, 1, MOST_NODES):
        raise BadValue(1)


def _check_wait(wait):
    if not is_number(wait, 0, MOST_WAIT):
        raise BadValue(2)


def _names(mark, node):
    """Whether a mark names a node as stopped."""
    return (mark >> node) & 1 == 1


def _boxes(nodes, mark, box):
    """This box for each node that the mark does not name."""
    return tuple([None if _names(mark, node) else box for node in range(nodes)])


def _suspecting(nodes, mark, never):
    """The sets of nodes with all that the mark names, and without those of never."""
    return tuple([suspected for suspected in range(1 << nodes) if mark & ~suspected == 0 and suspected & never == 0])


def _labels(detector):
    """The pairs of a mark and, for each node, whether a row of the detector with this mark has a box for it.

    They are in the order of the marks, and then of the nodes that have a box, read as the bits of a number.
    """
    found = {}
    for rows in detector.states:
        for mark, boxes, _ in rows:
            lives = tuple([box is not None for box in boxes])
            found[(mark, sum([1 << node for node, live in enumerate(lives) if live]))] = lives
    return [(key[0], found[key]) for key in sorted(found)]
