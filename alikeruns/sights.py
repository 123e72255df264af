"""Sights, runs that look alike, and sights that are due. [27] [28] [30]"""

from alikeruns.checks import is_integer, is_number
from alikeruns.errors import BadValue
from alikeruns.runs import all_inputs, check_few_runs, checked_run
from alikeruns.views import Views


def sight(world, run, node, time):
    """The sight of a node at a time of a run. [27]"""
    checked = checked_run(world, run)
    if not is_number(time, 0, len(checked[1])):
        raise BadValue(4)
    views = Views()
    found = _view(views, world, checked, node, time)
    if found is None:
        raise BadValue(3)
    return views.sights[found]


def alike(world, one, other, node, time):
    """Whether two runs look alike to a node at a time. [28]"""
    first = checked_run(world, one)
    second = checked_run(world, other)
    if not is_integer(time) or time < 0:
        raise BadValue(5)
    if time > len(first[1]) or time > len(second[1]):
        return False
    views = Views()
    found = _view(views, world, first, node, time)
    return found is not None and found == _view(views, world, second, node, time)


def due_sights(world, rounds):
    """The sights that are due within rounds, in the order in which runs first show them. [30]"""
    check_few_runs(world, rounds)
    views = Views()
    # Every row stands for a run: its last state, and the sights there; as the
    # runs are, the rows are ascending.
    rows = [(world.start, views.at_start(world, inputs)) for inputs in all_inputs(world)]
    found = _due_in(world, rows)
    for _ in range(rounds):
        rows = [(move[2], views.after_move(seen, move)) for state, seen in rows
                for move in world.states[state][3]]
        found = found + _due_in(world, rows)
    return tuple([views.sights[number] for number in found])


def _view(views, world, run, node, time):
    """The number of the sight of a node at a time of a run, None if it is not live then."""
    inputs, moves = run
    if not is_number(node, 0, world.nodes - 1):
        return None
    seen = views.at_start(world, inputs)
    state = world.start
    for number in moves[:time]:
        move = world.states[state][3][number]
        seen = views.after_move(seen, move)
        state = move[2]
    return seen[node]


def _due_in(world, rows):
    """The numbers of the sights that are due in the last states of some runs, each once."""
    found = {}
    for state, seen in rows:
        if world.states[state][2]:
            for number in seen:
                if number is not None:
                    found[number] = True
    return list(found)
