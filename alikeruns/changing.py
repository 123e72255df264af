"""Sights as they are if what a table outputs is told as hints. [52]"""

from alikeruns.bounds import MOST_NODES
from alikeruns.checks import is_integer, is_number, is_row, is_sequence
from alikeruns.views import Views


def read_sight(views, kinds, value):
    """The number of a sight of some world, None if value has not the form of one.

    kinds is told the node and the time of each number.
    """
    if is_row(value, 2) and is_number(value[0], 0, MOST_NODES - 1) and is_number(value[1], 0, 1):
        number = views.first(value[0], value[1])
        kinds[number] = (value[0], 0)
        return number
    if not is_row(value, 3) or not is_integer(value[1]) or not is_sequence(value[2]):
        return None
    before = read_sight(views, kinds, value[0])
    if before is None:
        return None
    node, time = kinds[before]
    heard = [read_sight(views, kinds, other) for other in value[2]]
    if None in heard or not _are_heard([kinds[other] for other in heard], node, time):
        return None
    number = views.later(before, value[1], tuple(heard))
    kinds[number] = (node, time + 1)
    return number


def has_all(views, outputs):
    """Whether there is an output for each sight of the times from 1 on."""
    return all([number in outputs for number in views.later_numbers()])


def changed_views(views, outputs):
    """All sights with the outputs for them as hints: views of these, and for each number the new one."""
    news = Views()
    found = []
    # What is in a sight has a lesser number than the sight.
    for key, number in views.numbers.items():
        if len(key) == 2:
            node, value = key
            found.append(news.first(node, value))
        else:
            before, _, heard = key
            told = tuple([found[other] for other in heard])
            found.append(news.later(found[before], outputs[number], told))
    return (news, found)


def _are_heard(kinds, node, time):
    """Whether these pairs of a node and a time can be heard by a node: of this time, of other nodes, ascending."""
    least = 0
    for other, at in kinds:
        if at != time or other == node or other < least:
            return False
        least = other + 1
    return True
