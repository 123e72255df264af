"""What the document says, written down once more, slowly and in other ways."""

from itertools import product


def integer(value):
    return type(value) is int


def seq(value):
    return type(value) in (list, tuple)


def ascending_nodes(value, nodes):
    return (seq(value) and all(integer(x) and x in range(nodes) for x in value)
            and all(a < b for a, b in zip(value, value[1:])))


def plain(value):
    """The value with tuples in place of lists at every level."""
    return tuple(plain(x) for x in value) if seq(value) else value


def listed(value):
    """The value with lists in place of tuples at every level."""
    return [listed(x) for x in value] if seq(value) else value


def world_error(nodes, states, start):
    """The class and the argument of the error of World, None if there is none. [19]"""
    if not (integer(nodes) and nodes in (1, 2, 3, 4)):
        return ("BadValue", 1)
    if not seq(states):
        return ("BadValue", 2)
    if len(states) > 400:
        return ("TooMany", "states")
    for number, state in enumerate(states):
        if seq(state) and len(state) == 4 and seq(state[3]) and len(state[3]) > 2000:
            return ("TooMany", "moves")
        if not state_as_told(nodes, states, state):
            return ("BadState", number)
    if not (integer(start) and start in range(len(states))):
        return ("BadValue", 3)
    return None


def state_as_told(nodes, states, state):
    if not (seq(state) and len(state) == 4):
        return False
    mark, live, due, moves = state
    return (integer(mark) and 0 <= mark <= 10000 and ascending_nodes(live, nodes)
            and (due is True or due is False) and seq(moves) and len(moves) >= 1
            and all(move_as_told(nodes, states, live, move) for move in moves)
            and len({repr(plain(move)) for move in moves}) == len(moves))


def move_as_told(nodes, states, live, move):
    if not (seq(move) and len(move) == 3 and seq(move[0]) and seq(move[1])
            and len(move[0]) == len(move[1]) == nodes
            and integer(move[2]) and move[2] in range(len(states))):
        return False
    target = states[move[2]]
    named = seq(target) and len(target) == 4 and ascending_nodes(target[1], nodes)
    if named and not set(target[1]) <= set(live):
        return False
    for node in range(nodes):
        heard, hint = move[0][node], move[1][node]
        none = heard is None and hint is None
        told = (node in live and integer(hint) and -1000 <= hint <= 1000 and ascending_nodes(heard, nodes)
                and node not in heard and set(heard) <= set(live))
        if named and not (told if node in target[1] else none):
            return False
        if not named and not (none or told):
            return False
    return True


def subsets_of(nodes):
    """All sets of some nodes, as ascending tuples."""
    nodes = list(nodes)
    return [tuple(x for x, taken in zip(nodes, bits) if taken) for bits in product((0, 1), repeat=len(nodes))]


def ways_to_hear(nodes, live, there):
    """Every tuple of what is heard by the nodes of there if all of live have sent."""
    rows = []
    for node in range(nodes):
        rows.append(subsets_of(set(live) - {node}) if node in there else [None])
    return list(product(*rows))


def bits(mark):
    return {node for node in range(4) if mark // 2 ** node % 2 == 1}


def stops_states(nodes, most):
    """The states of stops_world: all ways to hear, less those that are not allowed. [21]"""
    marks = [mark for mark in range(2 ** nodes) if len(bits(mark)) <= most]
    states = []
    for mark in marks:
        live = set(range(nodes)) - bits(mark)
        moves = []
        for to, after in enumerate(marks):
            if bits(mark) <= bits(after):
                stay = set(range(nodes)) - bits(after)
                hints = tuple(0 if node in stay else None for node in range(nodes))
                for heard in ways_to_hear(nodes, live, stay):
                    if all(set(heard[node]) >= stay - {node} for node in stay):
                        moves.append((heard, hints, to))
        moves.sort(key=lambda move: (move[2], tuple(x or () for x in move[0])))
        states.append((mark, tuple(sorted(live)), False, tuple(moves)))
    return tuple(states)


def one_state(nodes, wanted):
    """One state with a move for each way to hear that is wanted, in order."""
    live = tuple(range(nodes))
    heards = sorted(heard for heard in ways_to_hear(nodes, live, live) if wanted(heard))
    return ((0, live, False, tuple((heard, (0,) * nodes, 0) for heard in heards)),)


def losses_states(nodes, most):
    return one_state(nodes, lambda heard: sum(nodes - 1 - len(row) for row in heard) <= most)


def hears_states(nodes, least):
    return one_state(nodes, lambda heard: all(len(row) >= least for row in heard))


def due_states(states, start, dues):
    """The states of with_due. [24]"""
    levels = [{start}]
    for _ in range(5):
        levels.append({move[2] for number in levels[-1] for move in states[number][3]})
    while True:
        more = levels[5] | {move[2] for number in levels[5] for move in states[number][3]}
        if more == levels[5]:
            break
        levels[5] = more
    pairs = [(rounds, number) for rounds in range(6) for number in sorted(levels[rounds])]
    found = []
    for rounds, number in pairs:
        mark, live, _, moves = states[number]
        later = rounds + 1 if rounds < 5 else 5
        due = any(old == mark and time <= rounds for old, time in dues)
        found.append((mark, live, due, tuple((a, b, pairs.index((later, to))) for a, b, to in moves)))
    return tuple(found)


def all_runs(world, rounds):
    """All runs of a length, ascending."""
    def paths(state, left):
        if left == 0:
            return [()]
        return [(number,) + rest for number, move in enumerate(world.states[state][3])
                for rest in paths(move[2], left - 1)]
    values = (0,) if world.blind else (0, 1)
    return [(inputs, path) for inputs in product(values, repeat=world.nodes)
            for path in paths(world.start, rounds)]


def taken(world, run, time):
    """The state at a time, and the moves that lead there."""
    state, moves = world.start, []
    for number in run[1][:time]:
        move = world.states[state][3][number]
        moves.append(move)
        state = move[2]
    return world.states[state], moves


def sight_of(world, run, node, time):
    """The sight, from its time backwards; None if the node is not live. [27]"""
    state, moves = taken(world, run, time)
    if node not in state[1]:
        return None
    if time == 0:
        return (node, run[0][node])
    heard, hints, _ = moves[-1]
    return (sight_of(world, run, node, time - 1), hints[node],
            tuple(sight_of(world, run, other, time - 1) for other in heard[node]))


def look_alike(world, one, other, node, time):
    """Whether two runs look alike, asked of what was got, without a sight. [12]"""
    mine, my_moves = taken(world, one, time)
    yours, your_moves = taken(world, other, time)
    if node not in mine[1] or node not in yours[1]:
        return False
    if time == 0:
        return one[0][node] == other[0][node]
    heard, hints = my_moves[-1][0][node], my_moves[-1][1][node]
    if (heard, hints) != (your_moves[-1][0][node], your_moves[-1][1][node]):
        return False
    return all(look_alike(world, one, other, sender, time - 1) for sender in (node,) + heard)


def due_of(world, rounds):
    """The due sights, asked of every run in order. [30]"""
    found, seen = [], set()
    for time in range(rounds + 1):
        for run in all_runs(world, time):
            state, _ = taken(world, run, time)
            for node in state[1] if state[2] else ():
                told = sight_of(world, run, node, time)
                if repr(told) not in seen:
                    seen.add(repr(told))
                    found.append(told)
    return tuple(found)


def run_error(world, run):
    """The argument of BadRun, None if the run is one. [26]"""
    if not (seq(run) and len(run) == 2 and seq(run[0]) and seq(run[1])):
        return -1
    inputs, moves = run
    values = (0,) if world.blind else (0, 1)
    if len(moves) > 5 or len(inputs) != world.nodes:
        return -1
    if not all(integer(value) and value in values for value in inputs):
        return -1
    for place in range(len(moves)):
        state, _ = taken(world, run, place)
        if not (integer(moves[place]) and moves[place] in range(len(state[3]))):
            return place
    return None
