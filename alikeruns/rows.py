"""The demand states of a demand, and its starts, checked and copied. [42]"""

from alikeruns.bounds import MOST_MARK, MOST_ROWS
from alikeruns.checks import is_ascending, is_number, is_row, is_sequence
from alikeruns.errors import BadRow, TooMany


def checked_rows(nodes, outs, states):
    """The demand states as plain tuples; an error for the first one that is wrong."""
    return tuple([_checked_state(nodes, outs, len(states), number, rows) for number, rows in enumerate(states)])


def plain_starts(nodes, many, starts):
    """The starts for each way to give inputs as plain tuples, None if they are wrong; many demand states there are."""
    ways = 1 << nodes
    if _is_filled(starts, many - 1):
        return (tuple(starts),) * ways
    if is_row(starts, ways) and all([_is_filled(numbers, many - 1) for numbers in starts]):
        return tuple([tuple(numbers) for numbers in starts])
    return None


def _checked_state(nodes, outs, many, number, rows):
    if not is_sequence(rows):
        raise BadRow(number)
    if len(rows) > MOST_ROWS:
        raise TooMany("rows")
    for row in rows:
        if not _is_demand_row(nodes, outs, many, row):
            raise BadRow(number)
    plain = tuple([_plain_row(row) for row in rows])
    if len(set(plain)) < len(plain):
        raise BadRow(number)
    return plain


def _is_demand_row(nodes, outs, many, row):
    if not is_row(row, 3):
        return False
    mark, boxes, to = row
    if not is_number(mark, 0, MOST_MARK) or not is_row(boxes, nodes) or not is_number(to, 0, many - 1):
        return False
    return all([box is None or _is_filled(box, outs - 1) for box in boxes])


def _is_filled(value, high):
    """Whether value is an ascending sequence of integers from 0 to high that is not empty."""
    return is_ascending(value, high) and len(value) > 0


def _plain_row(row):
    mark, boxes, to = row
    return (mark, tuple([None if box is None else tuple(box) for box in boxes]), to)
