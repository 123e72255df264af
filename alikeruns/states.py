"""The states of a world, checked and copied. [18] [19]"""

from alikeruns.bounds import MOST_HINT, MOST_MARK, MOST_MOVES
from alikeruns.checks import is_ascending, is_number, is_row, is_sequence
from alikeruns.errors import BadState, TooMany


def checked_states(nodes, states):
    """The states as plain tuples; an error for the first state that is wrong."""
    lives = [_live_of(nodes, state) for state in states]
    return tuple([_checked_state(nodes, lives, number, state) for number, state in enumerate(states)])


def _live_of(nodes, state):
    """The live nodes that a state names, None if it names none in the right form."""
    if is_row(state, 4) and is_ascending(state[1], nodes - 1):
        return tuple(state[1])
    return None


def _checked_state(nodes, lives, number, state):
    if not is_row(state, 4):
        raise BadState(number)
    mark, _, due, moves = state
    if is_sequence(moves) and len(moves) > MOST_MOVES:
        raise TooMany("moves")
    if not is_number(mark, 0, MOST_MARK) or lives[number] is None or not isinstance(due, bool):
        raise BadState(number)
    if not is_sequence(moves) or len(moves) == 0:
        raise BadState(number)
    for move in moves:
        if not _is_move(nodes, lives, lives[number], move):
            raise BadState(number)
    plain = tuple([_plain_move(move) for move in moves])
    if len(set(plain)) < len(plain):
        raise BadState(number)
    return (mark, lives[number], due, plain)


def _is_move(nodes, lives, left, move):
    """Whether move can be taken in a state in which the nodes of left are live."""
    if not is_row(move, 3):
        return False
    heard, hints, to = move
    if not is_row(heard, nodes) or not is_row(hints, nodes) or not is_number(to, 0, len(lives) - 1):
        return False
    there = lives[to]
    for node in range(nodes):
        gets = heard[node] is not None or hints[node] is not None
        if gets and not (node in left and _is_told(nodes, left, node, heard[node], hints[node])):
            return False
        # A state of the wrong form names no live nodes to compare with; it is
        # reported under its own number.
        if there is not None and gets != (node in there):
            return False
    return True


def _is_told(nodes, left, node, heard, hint):
    """Whether a live node can hear these nodes and get this hint."""
    if not is_number(hint, -MOST_HINT, MOST_HINT) or not is_ascending(heard, nodes - 1):
        return False
    for other in heard:
        if other == node or other not in left:
            return False
    return True


def _plain_move(move):
    heard, hints, to = move
    return (tuple([None if others is None else tuple(others) for others in heard]), tuple(hints), to)
