"""Values and worlds that several tests use."""

import random

from alikeruns.runs import count_runs
from alikeruns.worlds import World, hears_world, losses_world, stops_due, stops_world, with_due

DEEP = 1
for _ in range(39):
    DEEP = [DEEP]

# Values of kinds that no argument with an error is of, or that are far away.
JUNK = (None, True, False, "", "0", "1", "ab", "(0, 0)", "\n", "x" * 20000, [], (), [[]], ((),), [None], ["a"],
        [True], (False,), [[0, 2], [0]], ((0, 1), (0, 2), 3), DEEP, [0] * 20000, 10 ** 30, -10 ** 30)

NOT_INTEGERS = tuple(value for value in JUNK if type(value) is not int)

NOT_SEQUENCES = tuple(value for value in JUNK if type(value) not in (list, tuple))

# More than 30,000 runs have two moves.
CROWDED = losses_world(4, 5)


def error_of(call, *args, **more):
    """The class name and the argument of the error that a call raises; None if it returns."""
    try:
        call(*args, **more)
    except Exception as error:
        kept = [getattr(error, name) for name in ("at", "word") if hasattr(error, name)]
        return (type(error).__name__,) + tuple(kept)
    return None


def is_plain(value):
    """Whether a value is built from plain tuples, integers, strings, bools and None only."""
    if type(value) is tuple:
        return all(is_plain(x) for x in value)
    return value is None or type(value) in (int, str, bool)


def chain_world(sizes, nodes=1, blind=True):
    """A world of states in a row, with so many moves each, all to the next one, the last to itself."""
    live = tuple(range(nodes))
    states = []
    for number, size in enumerate(sizes):
        to = min(number + 1, len(sizes) - 1)
        moves = [(((),) * nodes, (hint,) + (0,) * (nodes - 1), to) for hint in range(-1000, size - 1000)]
        states.append((number, live, False, moves))
    return World(nodes, states, 0, blind=blind)


def fan_world(many, more):
    """So many moves to a state of 2,000 moves, and some more to a state of one move."""
    moves = [(((),), (hint,), 1) for hint in range(many)] + [(((),), (hint,), 2) for hint in range(more)]
    last = [(((),), (hint,), 2) for hint in range(-1000, 1000)]
    return World(1, [(0, (0,), False, moves), (1, (0,), True, last), (2, (0,), False, last[:1])], 0, blind=True)


def random_states(source, nodes, many, most_moves):
    """States of a world, as lists."""
    lives = [list(range(nodes))]
    for _ in range(many - 1):
        lives.append(sorted(source.sample(range(nodes), source.randint(0, nodes))))
    states = []
    for number, live in enumerate(lives):
        targets = [to for to, there in enumerate(lives) if set(there) <= set(live)]
        moves = []
        for _ in range(source.randint(1, most_moves)):
            move = random_move(source, nodes, live, source.choice(targets), lives)
            if move not in moves:
                moves.append(move)
        states.append([source.choice((0, 1, 2, 7, 10000)), live, source.random() < 0.4, moves])
    return states


def random_move(source, nodes, live, to, lives):
    heard, hints = [], []
    for node in range(nodes):
        if node in lives[to]:
            others = [other for other in live if other != node]
            heard.append(sorted(source.sample(others, source.randint(0, len(others)))))
            hints.append(source.choice((0, 0, 1, -1000, 1000)))
        else:
            heard.append(None)
            hints.append(None)
    return [heard, hints, to]


def random_world(seed, most_nodes=3, most_states=4, most_moves=3):
    source = random.Random(seed)
    nodes = source.randint(1, most_nodes)
    states = random_states(source, nodes, source.randint(1, most_states), most_moves)
    return World(nodes, states, source.randrange(len(states)) if seed % 3 == 0 else 0, blind=seed % 5 == 0)


def silent_world(nodes, blind=False):
    """The world in which no message ever arrives."""
    return World(nodes, [(0, tuple(range(nodes)), False, [(((),) * nodes, (0,) * nodes, 0)])], 0, blind=blind)


def all_due(world, time):
    """The world with all its marks due from this time on."""
    return with_due(world, [(mark, time) for mark in sorted({state[0] for state in world.states})])


def small_cases():
    """Worlds and numbers of rounds with few runs: of all families, blind or not, with hints and by chance."""
    hints = [(((1,), ()), (hint, -hint), 0) for hint in (0, 5)] + [(((), (0,)), (0, 0), 0)]
    cases = [(all_due(world, time), time) for time in (0, 1, 2) for world in (
        stops_world(2, 1), stops_world(2, 2), stops_world(2, 1, blind=True), losses_world(1, 0), losses_world(2, 0),
        losses_world(2, 1), losses_world(2, 2, blind=True), hears_world(2, 0), silent_world(2), silent_world(3),
        World(2, [(0, (0, 1), False, hints)], 0))]
    cases += [(with_due(stops_world(2, 1), stops_due(2, 1)), 2), (with_due(stops_world(3, 1), stops_due(3, 1)), 1),
              (with_due(stops_world(3, 1), ((0, 1), (1, 0), (4, 1))), 1), (with_due(stops_world(2, 2), ((1, 1),)), 2),
              (all_due(losses_world(3, 1), 1), 1), (losses_world(2, 1), 2), (stops_world(2, 1), 0)]
    for seed in range(40):
        world = random_world(seed, most_moves=5)
        cases += [(world, rounds) for rounds in range(4) if count_runs(world, rounds) <= 100]
    return cases


def hints_world(hints, marks=(0,), nodes=1):
    """A blind world with a move for each hint of node 0, to states of these marks in turn; nobody hears anything."""
    live = tuple(range(nodes))

    def move(hint, to):
        return (((),) * nodes, (hint,) + (0,) * (nodes - 1), to)
    first = [move(hint, hint % len(marks)) for hint in range(hints)]
    states = [(mark, live, False, [move(0, number)]) for number, mark in enumerate(marks)]
    return World(nodes, states + [(0, live, False, first)], len(marks), blind=True)


def blurred_world(seed):
    """A world by chance of states that the nodes can hardly tell apart, with other marks."""
    source = random.Random(seed)
    nodes = source.choice((1, 2, 2, 2, 3))
    live = tuple(range(nodes))
    states = []
    for mark in range(source.randint(2, 4)):
        moves = {}
        for _ in range(source.randint(1, 6)):
            heard = tuple(tuple(sorted(source.sample([other for other in live if other != node],
                                                     source.choice((0, 0, nodes - 1))))) for node in live)
            moves[(heard, tuple(source.choice((0, 0, 1)) for _ in live), source.randrange(4))] = True
        states.append((mark, live, False, moves))
    return World(nodes, [(mark, live, due, list({(heard, hints, to % len(states)): True for heard, hints, to in moves}))
                         for mark, live, due, moves in states], 0, blind=source.random() < 0.6)


def making_cases():
    """Worlds and numbers of rounds in which few sights occur: given by hand, of all families, with hints, by chance."""
    hints = [(((1,), ()), (hint, -hint), 0) for hint in (0, 5)] + [(((), (0,)), (0, 0), 0)]
    cases = [(losses_world(1, 0), 1), (losses_world(1, 0), 3), (losses_world(2, 0), 1), (losses_world(2, 1), 1),
             (losses_world(2, 0, blind=True), 2), (losses_world(2, 1, blind=True), 2), (stops_world(1, 1), 2),
             (stops_world(2, 1), 1), (stops_world(2, 2), 1), (stops_world(2, 1, blind=True), 2),
             (stops_world(2, 2, blind=True), 2), (stops_world(3, 1, blind=True), 1), (hears_world(2, 0), 1),
             (hears_world(2, 1, blind=True), 3), (hears_world(3, 1, blind=True), 1), (silent_world(2), 1),
             (silent_world(2, blind=True), 3), (World(2, [(0, (0, 1), False, hints)], 0), 1),
             (World(2, [(0, (0, 1), False, hints)], 0, blind=True), 2), (hints_world(5, (0, 1, 2)), 1),
             (hints_world(3, (1, 2), 2), 2), (losses_world(2, 2), 0), (stops_world(2, 2), 0)]
    for seed in range(60):
        world = random_world(seed, most_nodes=2)
        cases += [(world, rounds) for rounds in range(1, 4) if 1 < count_runs(world, rounds) <= 24]
    for seed in range(120):
        world = blurred_world(seed)
        cases += [(world, rounds) for rounds in (1, 2, 3)
                  if world.nodes * rounds <= 4 and 2 < count_runs(world, rounds) <= 32]
    return cases
