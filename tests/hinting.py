"""What the document says of detectors and hints, written down once more, slowly and in other ways."""

from itertools import product

from tests.reference import bits, integer, plain, seq


def subsets_as_numbers(nodes, wanted):
    """The sets of suspected nodes that are wanted, as numbers."""
    return tuple(number for number in range(2 ** nodes) if wanted(bits(number)))


def rows_for(nodes, marks, box, to):
    """A row for each mark, in which each node that it does not name has the box."""
    return tuple((mark, tuple(None if node in bits(mark) else box(mark) for node in range(nodes)), to)
                 for mark in marks)


def perfect_states(nodes):
    return (rows_for(nodes, range(2 ** nodes), lambda mark: (mark,), 0),)


def cautious_states(nodes):
    return (rows_for(nodes, range(2 ** nodes),
                     lambda mark: subsets_as_numbers(nodes, lambda told: told <= bits(mark)), 0),)


def complete_states(nodes):
    return (rows_for(nodes, range(2 ** nodes),
                     lambda mark: subsets_as_numbers(nodes, lambda told: told >= bits(mark)), 0),)


def trusting_states(nodes):
    return tuple(rows_for(nodes, [mark for mark in range(2 ** nodes) if j not in bits(mark)],
                          lambda mark: subsets_as_numbers(nodes, lambda told: told >= bits(mark) and j not in told), j)
                 for j in range(nodes))


def late_states(detector, wait):
    """The demand states of late for a wait above 0. [50]"""
    labels = sorted({(row[0], sum(2 ** node for node, box in enumerate(row[1]) if box is not None))
                     for rows in detector.states for row in rows})
    every = tuple(range(detector.outs))
    states = []
    for c in range(wait):
        nexts = [c + 1] if c + 1 < wait else [wait + start for start in detector.starts[0]]
        states.append(tuple((mark, tuple(every if node in bits(number) else None for node in range(detector.nodes)), to)
                            for mark, number in labels for to in nexts))
    states += [tuple((mark, boxes, to + wait) for mark, boxes, to in rows) for rows in detector.states]
    return tuple(states)


def fitting(state, row):
    """Whether a row has the mark of a state, and boxes for just its live nodes."""
    return row[0] == state[0] and all((box is not None) == (node in state[1]) for node, box in enumerate(row[1]))


def moves_of_pair(world, detector, pair):
    """The moves of a pair, each with the pair to which it leads. [51]"""
    state, number = pair
    found = set()
    for heard, _, to in world.states[state][3]:
        for row in detector.states[number]:
            if fitting(world.states[to], row):
                for hints in product(*[(None,) if box is None else box for box in row[1]]):
                    found.add((heard, hints, (to, row[2])))
    return found


def hinted(world, detector):
    """The states of with_hints, or the class and the argument of its error. [51]"""
    starts = [(world.start, start) for start in detector.starts[0]]
    moves = {"start": set().union(*(moves_of_pair(world, detector, pair) for pair in starts))}
    waiting = [pair for _, _, pair in moves["start"]]
    while waiting:
        pair = waiting.pop()
        if pair not in moves:
            moves[pair] = moves_of_pair(world, detector, pair)
            waiting += [after for _, _, after in moves[pair]]
    if len(moves) > 400:
        return ("TooMany", "states")
    if not all(moves.values()):
        return ("BadValue", 2)
    if any(len(found) > 2000 for found in moves.values()):
        return ("TooMany", "moves")
    pairs = sorted(pair for pair in moves if pair != "start")
    states = []
    for pair in ["start"] + pairs:
        mark, live, due, _ = world.states[world.start if pair == "start" else pair[0]]
        told = [(heard, hints, pairs.index(after) + 1) for heard, hints, after in moves[pair]]
        told.sort(key=lambda move: (move[2], [x or () for x in move[0]], [-1 if x is None else x for x in move[1]]))
        states.append((mark, live, due, tuple(told)))
    return tuple(states)


def time_of(value):
    """The node and the time of a value that has the form of a sight, None otherwise. [52]"""
    if not seq(value) or len(value) not in (2, 3):
        return None
    if len(value) == 2:
        right = integer(value[0]) and value[0] in (0, 1, 2, 3) and integer(value[1]) and value[1] in (0, 1)
        return (value[0], 0) if right else None
    before = time_of(value[0])
    if before is None or not integer(value[1]) or not seq(value[2]):
        return None
    heard = [time_of(other) for other in value[2]]
    if any(told is None or told[1] != before[1] or told[0] == before[0] for told in heard):
        return None
    senders = [told[0] for told in heard]
    return (before[0], before[1] + 1) if senders == sorted(set(senders)) else None


def changed_sight(value, outputs):
    """A sight as changed by outputs for the texts of sights; a KeyError if there is none for one in it."""
    if len(value) == 2:
        return plain(value)
    return (changed_sight(value[0], outputs), outputs[repr(plain(value))],
            tuple(changed_sight(other, outputs) for other in value[2]))
