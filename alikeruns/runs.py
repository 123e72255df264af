"""Runs of a world: checked, counted, listed. [26]"""

from alikeruns.bounds import MOST_ROUNDS, MOST_RUNS
from alikeruns.checks import is_number, is_row, is_sequence
from alikeruns.choices import one_of_each
from alikeruns.errors import BadRun, BadValue, TooMany


def count_runs(world, rounds):
    """How many runs of this length there are."""
    if not is_number(rounds, 0, MOST_ROUNDS):
        raise BadValue(2)
    ways = {world.start: len(all_inputs(world))}
    for _ in range(rounds):
        ways = _ways_later(world, ways)
    return sum([ways[state] for state in ways])


def runs(world, rounds):
    """All runs of this length, ascending."""
    check_few_runs(world, rounds)
    paths = [((), world.start)]
    for _ in range(rounds):
        paths = [(taken + (number,), move[2]) for taken, state in paths
                 for number, move in enumerate(world.states[state][3])]
    return tuple([(inputs, taken) for inputs in all_inputs(world) for taken, _ in paths])


def states_of(world, run):
    """The numbers of the states of a run at the times 0, 1, ..."""
    _, moves = checked_run(world, run)
    states = [world.start]
    for number in moves:
        states.append(_state_behind(world, states[-1], number))
    return tuple(states)


def check_few_runs(world, rounds):
    """BadValue(2) for rounds that are none, TooMany if more runs have this length than are looked at."""
    if count_runs(world, rounds) > MOST_RUNS:
        raise TooMany("runs")


def all_inputs(world):
    """All inputs that a run can have, ascending."""
    return one_of_each([_input_values(world) for _ in range(world.nodes)])


def checked_run(world, run):
    """The run as plain tuples; BadRun if it is no run of the world."""
    if not is_row(run, 2) or not is_sequence(run[0]) or not is_sequence(run[1]):
        raise BadRun(-1)
    inputs = tuple(run[0])
    moves = tuple(run[1])
    if len(moves) > MOST_ROUNDS or not _are_inputs(world, inputs):
        raise BadRun(-1)
    state = world.start
    for place, number in enumerate(moves):
        if not is_number(number, 0, len(world.states[state][3]) - 1):
            raise BadRun(place)
        state = _state_behind(world, state, number)
    return (inputs, moves)


def _input_values(world):
    return (0,) if world.blind else (0, 1)


def _are_inputs(world, inputs):
    if len(inputs) != world.nodes:
        return False
    most = len(_input_values(world)) - 1
    return all([is_number(value, 0, most) for value in inputs])


def _state_behind(world, state, number):
    """The number of the state to which a move of a state leads."""
    return world.states[state][3][number][2]


def _ways_later(world, ways):
    """In how many ways each state is reached one round later than in these ways."""
    later = {}
    for state in ways:
        for move in world.states[state][3]:
            later[move[2]] = later.get(move[2], 0) + ways[state]
    return later
