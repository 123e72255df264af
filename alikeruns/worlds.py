"""Worlds, and the families of worlds that are given. [18] to [25]"""

from alikeruns.bounds import MOST_LOST, MOST_MARK, MOST_NODES, MOST_ROUNDS, MOST_STATES
from alikeruns.checks import is_number, is_sequence, is_table_of_integers
from alikeruns.choices import one_of_each, subsets
from alikeruns.errors import BadValue, TooMany
from alikeruns.states import checked_states


class World:
    """A machine that says, round by round, who is live, who hears whom, and what is due."""

    def __init__(self, nodes, states, start, *, blind=False):
        _check_nodes(nodes)
        if not is_sequence(states):
            raise BadValue(2)
        if len(states) > MOST_STATES:
            raise TooMany("states")
        plain = checked_states(nodes, states)
        if not is_number(start, 0, len(plain) - 1):
            raise BadValue(3)
        self.nodes = nodes
        self.states = plain
        self.start = start
        self.blind = blind

    def __eq__(self, other):
        return (isinstance(other, World) and self.nodes == other.nodes and self.states == other.states
                and self.start == other.start and self.blind == other.blind)

    def __len__(self):
        return len(self.states)


def stops_world(nodes, most, *, blind=False):
    """The world in which at most most nodes stop. [21]"""
    _check_stops(nodes, most)
    marks = _stop_marks(nodes, most)
    numbers = {mark: number for number, mark in enumerate(marks)}
    states = [(mark, _not_named(nodes, mark), False, _stop_moves(nodes, mark, numbers)) for mark in marks]
    return World(nodes, states, 0, blind=blind)


def losses_world(nodes, most, *, blind=False):
    """The world in which at most most messages are lost in a round. [22]"""
    _check_nodes(nodes)
    if not is_number(most, 0, MOST_LOST):
        raise BadValue(2)
    messages = [(to, sender) for to in range(nodes) for sender in range(nodes) if to != sender]
    heards = [_heard_without(nodes, lost) for lost in subsets(messages) if len(lost) <= most]
    return _one_state(nodes, heards, blind)


def hears_world(nodes, least, *, blind=False):
    """The world in which each node hears at least least others in a round. [23]"""
    _check_nodes(nodes)
    if not is_number(least, 0, nodes - 1):
        raise BadValue(2)
    rows = []
    for node in range(nodes):
        others = [other for other in range(nodes) if other != node]
        rows.append([chosen for chosen in subsets(others) if len(chosen) >= least])
    return _one_state(nodes, one_of_each(rows), blind)


def with_due(world, dues):
    """The world that counts rounds, due where dues say so. [24]"""
    if not is_table_of_integers(dues) or not all([is_number(time, 0, MOST_ROUNDS) for _, time in dues]):
        raise BadValue(2)
    times = {mark: time for mark, time in dues}
    pairs = _counted_states(world)
    if len(pairs) > MOST_STATES:
        raise TooMany("states")
    numbers = {pair: number for number, pair in enumerate(pairs)}
    states = []
    for rounds, number in pairs:
        mark, live, _, moves = world.states[number]
        due = mark in times and times[mark] <= rounds
        later = _one_more(rounds)
        states.append((mark, live, due, [(heard, hints, numbers[(later, to)]) for heard, hints, to in moves]))
    return World(world.nodes, states, 0, blind=world.blind)


def stops_due(nodes, most):
    """The marks of stops_world and the times by which decisions can be due there. [24]"""
    _check_stops(nodes, most)
    pairs = []
    for mark in _stop_marks(nodes, most):
        stopped = nodes - len(_not_named(nodes, mark))
        pairs.append((mark, stopped + 2 if stopped <= most - 2 else stopped + 1))
    return tuple(pairs)


def with_marks(world, pairs):
    """The world with its marks changed as the pairs (old, new) say. [25]"""
    if not is_table_of_integers(pairs):
        raise BadValue(2)
    for old, new in pairs:
        if not is_number(old, 0, MOST_MARK) or not is_number(new, 0, MOST_MARK):
            raise BadValue(2)
    news = {old: new for old, new in pairs}
    states = [(news.get(mark, mark), live, due, moves) for mark, live, due, moves in world.states]
    return World(world.nodes, states, world.start, blind=world.blind)


def _check_nodes(nodes):
    if not is_number(nodes, 1, MOST_NODES):
        raise BadValue(1)


def _check_stops(nodes, most):
    _check_nodes(nodes)
    if not is_number(most, 0, nodes):
        raise BadValue(2)


def _stop_marks(nodes, most):
    """The marks that name at most most nodes, ascending."""
    return [mark for mark in range(1 << nodes) if nodes - len(_not_named(nodes, mark)) <= most]


def _not_named(nodes, mark):
    """The nodes that a mark does not name as stopped."""
    return tuple([node for node in range(nodes) if (mark >> node) & 1 == 0])


def _stop_moves(nodes, mark, numbers):
    """The moves where the nodes that mark names have stopped; numbers has the state of each mark."""
    live = _not_named(nodes, mark)
    moves = []
    for stops in subsets(live):
        to = mark + sum([1 << node for node in stops])
        if to in numbers:
            stay = [node for node in live if node not in stops]
            hints = tuple([0 if node in stay else None for node in range(nodes)])
            for reached in one_of_each([subsets(stay) for _ in stops]):
                heard = _heard_of_stops(nodes, stay, dict(zip(stops, reached)))
                moves.append((heard, hints, numbers[to]))
    return sorted(moves, key=_move_order)


def _heard_of_stops(nodes, stay, reached):
    """What is heard if some nodes stay live, and those that stop reach only some of them."""
    heard = []
    for node in range(nodes):
        if node in stay:
            others = [other for other in stay if other != node]
            last = [other for other in reached if node in reached[other]]
            heard.append(tuple(sorted(others + last)))
        else:
            heard.append(None)
    return tuple(heard)


def _move_order(move):
    heard, _, to = move
    return (to, [() if others is None else others for others in heard])


def _heard_without(nodes, lost):
    """What is heard if just the lost messages (to, sender) do not arrive."""
    heard = []
    for node in range(nodes):
        heard.append(tuple([other for other in range(nodes) if other != node and (node, other) not in lost]))
    return tuple(heard)


def _one_state(nodes, heards, blind):
    """The world of one state with a move for each way to hear; TooMany if these are too many."""
    moves = [(heard, (0,) * nodes, 0) for heard in sorted(heards)]
    return World(nodes, [(0, tuple(range(nodes)), False, moves)], 0, blind=blind)


def _counted_states(world):
    """The pairs (number of rounds, state) that can be reached, ascending."""
    targets = [sorted({move[2] for move in state[3]}) for state in world.states]
    waiting = [(0, world.start)]
    seen = set()
    seen.add((0, world.start))
    while waiting:
        rounds, state = waiting.pop()
        for to in targets[state]:
            pair = (_one_more(rounds), to)
            if pair not in seen:
                seen.add(pair)
                waiting.append(pair)
    return sorted(seen)


def _one_more(rounds):
    """The number of rounds one round later; it stays at the last number that is counted."""
    return min(rounds + 1, MOST_ROUNDS)
