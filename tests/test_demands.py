"""Points 42 and 43: demands, and runs that keep them."""

import copy
import random
import unittest
from itertools import product

from alikeruns.demands import Demand, keeps
from alikeruns.runs import runs, states_of
from alikeruns.worlds import losses_world, stops_world
from tests import demanding, reference
from tests.reference import listed
from tests.values import (CROWDED, JUNK, NOT_INTEGERS, NOT_SEQUENCES, error_of, is_plain, random_world, silent_world)

ROW = (3, ((0, 1), None), 0)
STATES = ((ROW, (3, ((0,), (1,)), 1), (3, ((0,), (0, 1, 2)), 1)), ())


def changed_rows():
    """Rows that are wrong in a demand of 2 nodes, 3 outputs and 2 states."""
    return JUNK + (
        (3, ((0,), (1,))), (3, ((0,), (1,)), 0, 0), (-1, ((0,), (1,)), 0), (10001, ((0,), (1,)), 0),
        (True, ((0,), (1,)), 0), (None, ((0,), (1,)), 0), ("3", ((0,), (1,)), 0), (3, None, 0), (3, (), 0),
        (3, ((0,),), 0), (3, ((0,), (1,), (2,)), 0), (3, ((0,), ()), 0), (3, ((), None), 0), (3, ((0,), (3,)), 0),
        (3, ((0,), (-1,)), 0), (3, ((1, 0), (1,)), 0), (3, ((1, 1), (1,)), 0), (3, ((True,), (1,)), 0),
        (3, ((0, True), (1,)), 0), (3, (0, (1,)), 0), (3, ("0", (1,)), 0), (3, ((None,), (1,)), 0),
        (3, (False, (1,)), 0), (3, ((0,), (1,)), 2), (3, ((0,), (1,)), -1), (3, ((0,), (1,)), False),
        (3, ((0,), (1,)), None), (3, ((0,), (1,)), (0,)))


class Demands(unittest.TestCase):

    def test_its_properties(self):
        demand = Demand(2, 3, STATES, (0, 1))
        self.assertEqual((demand.nodes, demand.outs, demand.states), (2, 3, STATES))
        self.assertEqual(demand.starts, ((0, 1),) * 4)
        for states in (listed(STATES), [list(state) for state in STATES]):
            for starts in ([0, 1], (0, 1), [[0, 1]] * 4, ((0, 1), [0, 1], (0, 1), [0, 1])):
                other = Demand(2, 3, states, starts)
                self.assertEqual(other.states, STATES)
                self.assertEqual(other.starts, ((0, 1),) * 4)
                self.assertTrue(is_plain((other.nodes, other.outs, other.states, other.starts)))

    def test_starts_as_one_sequence_and_as_many(self):
        for nodes in (1, 2, 3, 4):
            states = [[(0, ((0,),) * nodes, 0)], []]
            for starts in ([0], [1], [0, 1]):
                self.assertEqual(Demand(nodes, 1, states, starts).starts, (tuple(starts),) * 2 ** nodes)
            starts = [[[0], [1], [0, 1]][number % 3] for number in range(2 ** nodes)]
            self.assertEqual(Demand(nodes, 1, states, starts).starts, reference.plain(starts))
            for wrong in (starts[1:], starts + [[0]], [], [starts], starts[:-1] + [0], [0] + starts[1:]):
                self.assertEqual(error_of(Demand, nodes, 1, states, wrong), ("BadValue", 4), wrong)

    def test_demands_that_are_equal(self):
        demand = Demand(2, 3, STATES, (0, 1))
        self.assertTrue(demand == Demand(2, 3, listed(STATES), [[0, 1]] * 4))
        self.assertFalse(demand != Demand(2, 3, STATES, (0, 1)))
        for other in (Demand(2, 4, STATES, (0, 1)), Demand(2, 3, STATES, (0,)), Demand(2, 3, STATES[:1] * 2, (0, 1)),
                      Demand(2, 3, (STATES[0][::-1], ()), (0, 1)), Demand(2, 3, STATES, [[0, 1]] * 3 + [[0]]),
                      Demand(2, 3, ((),), (0,)), Demand(1, 3, [[(3, ((0, 1),), 0)], []], (0, 1)),
                      demand.states, None, losses_world(2, 0), "demand"):
            self.assertFalse(demand == other)
            self.assertTrue(demand != other)

    def test_a_demand_state_without_a_row(self):
        self.assertEqual(Demand(4, 16, [[]], [0]).states, ((),))
        self.assertEqual(Demand(1, 1, ((),), ((0,), (0,))).starts, ((0,), (0,)))

    def test_16_outputs(self):
        every = tuple(range(16))
        demand = Demand(2, 16, [[(10000, (every, None), 0), (0, ((15,), every), 0)]], [0])
        self.assertEqual(demand.states[0][0], (10000, (every, None), 0))
        self.assertEqual(error_of(Demand, 2, 16, [[(0, (every + (16,), None), 0)]], [0]), ("BadRow", 0))

    def test_wrong_nodes_and_outputs(self):
        for wrong in (0, 5, -1, 10 ** 30) + NOT_INTEGERS:
            self.assertEqual(error_of(Demand, wrong, wrong, wrong, wrong), ("BadValue", 1), repr(wrong)[:80])
            self.assertEqual(error_of(Demand, wrong, 1, [[]], [0]), ("BadValue", 1))
        for wrong in (0, 17, -1, 10 ** 30) + NOT_INTEGERS:
            self.assertEqual(error_of(Demand, 2, wrong, wrong, wrong), ("BadValue", 2), repr(wrong)[:80])
            self.assertEqual(error_of(Demand, 2, wrong, STATES, [0]), ("BadValue", 2))

    def test_wrong_states(self):
        for wrong in NOT_SEQUENCES + ([], ()):
            self.assertEqual(error_of(Demand, 2, 3, wrong, None), ("BadValue", 3), repr(wrong)[:80])
        for wrong in (row for row in changed_rows()):
            for states, at in (([[wrong], None], 0), ([STATES[0], [ROW, wrong]], 1), ([[], (wrong, ROW)], 1)):
                self.assertEqual(error_of(Demand, 2, 3, states, None), ("BadRow", at), repr(wrong)[:80])
                self.assertEqual(demanding.demand_error(2, 3, states, None), ("BadRow", at))
        for wrong in NOT_SEQUENCES:
            self.assertEqual(error_of(Demand, 2, 3, [[], wrong], [0]), ("BadRow", 1), repr(wrong)[:80])
        self.assertEqual(error_of(Demand, 2, 3, [[ROW, listed(ROW)], [None]], [0]), ("BadRow", 0))

    def test_wrong_starts(self):
        wrongs = JUNK + ([0, 0], [1, 0], [2], [-1], [True], [False, 1], ["0"], [None], [0, None], [[0], [0]],
                         [[0]] * 3, [[0]] * 5, [[0], [0], [0], []], [[0], [0], [0], 0], [[0], [0], [0], [2]],
                         [[0], [1, 0], [0], [0]], [[True], [0], [0], [0]], [0, [0], [0], [0]], [[[0]]] * 4, 0)
        for wrong in wrongs:
            if wrong != [0] and wrong != (0,):
                self.assertEqual(error_of(Demand, 2, 3, STATES, wrong), ("BadValue", 4), repr(wrong)[:80])
                self.assertEqual(demanding.demand_error(2, 3, STATES, wrong), ("BadValue", 4))

    def test_400_and_401_states(self):
        self.assertEqual(len(Demand(1, 1, [[]] * 400, [399]).states), 400)
        for states in ([[]] * 401, [None] * 401, [[None]] * 401, [[ROW] * 2001] + [None] * 400):
            self.assertEqual(error_of(Demand, 2, 3, states, None), ("TooMany", "states"))
        self.assertEqual(error_of(Demand, 2, 0, [[]] * 401, None), ("BadValue", 2))

    def test_2000_and_2001_rows(self):
        rows = [(mark, ((0,),), to) for mark in range(1001) for to in (0, 1)]
        self.assertEqual(len(Demand(1, 1, [rows[:2000], []], [0]).states[0]), 2000)
        self.assertEqual(error_of(Demand, 1, 1, [rows[:2000], rows], [0]), ("TooMany", "rows"))
        for wrong in (rows[:2001], [None] * 2001, [rows[0]] * 2001):
            self.assertEqual(error_of(Demand, 1, 1, [wrong, [None]], None), ("TooMany", "rows"))
            self.assertEqual(error_of(Demand, 1, 1, [[None], wrong], None), ("BadRow", 0))
        self.assertEqual(error_of(Demand, 1, 1, [rows[:1999] + rows[:1], []], [0]), ("BadRow", 0))

    def test_errors_by_chance(self):
        source = random.Random(3)
        found = {}
        for _ in range(3000):
            rows = [source.choice((ROW, (3, ((0,), (1,)), 1), (0, (None, (2,)), 0)))
                    for _ in range(source.randint(0, 2))]
            states = [list(rows), [source.choice(rows)] if rows else []]
            if source.random() < 0.3:
                states[source.randrange(2)].append(source.choice(changed_rows()))
            starts = source.choice(([0], [0, 1], [[0]] * 4, [[0, 1]] * 2, [], [2], None, [[0]] * 3 + [[]]))
            arguments = (source.choice((2, 2, 2, 2, 1, 0)), source.choice((3, 3, 3, 1, 17)), states, starts)
            error = demanding.demand_error(*arguments)
            self.assertEqual(error_of(Demand, *arguments), error)
            found[error] = True
        self.assertGreaterEqual(len(found), 6)

    def test_what_was_given_is_not_changed(self):
        states, starts = listed(STATES), [[0], [1], [0, 1], [0]]
        before = copy.deepcopy((states, starts))
        demand = Demand(2, 3, states, starts)
        self.assertEqual((states, starts), before)
        states[0][0][1][0].append(2)
        states.pop()
        starts[0].append(1)
        self.assertEqual((demand.states, demand.starts), (STATES, reference.plain(before[1])))


class Keeps(unittest.TestCase):

    def test_rows_that_fit_and_rows_that_do_not(self):
        world = losses_world(2, 1)
        demand = Demand(2, 3, [[(0, ((0, 1), (2,)), 0)]], [0])
        for outputs, told in (([[0, 2]], True), ([[1, 2]], True), ([[2, 2]], False), ([[0, 1]], False)):
            self.assertIs(keeps(world, ((0, 1), (0,)), demand, outputs), told)
            self.assertIs(keeps(world, [[0, 1], [0]], demand, reference.plain(outputs)), told)
        for rows, told in (([(1, ((0, 1), (2,)), 0)], False), ([(0, ((0,), None), 0)], False), ([], False),
                           ([(0, (None, None), 0)], False), ([(1, ((0,), (2,)), 0), (0, ((0,), (2,)), 0)], True)):
            self.assertIs(keeps(world, ((0, 1), (0,)), Demand(2, 3, [rows], [0]), [[0, 2]]), told)

    def test_stopped_nodes(self):
        world = stops_world(2, 1)
        to_one = [at for at, move in enumerate(world.states[0][3]) if move[2] == 1][0]
        run = ((1, 1), (to_one,))
        for rows, told in (([(1, (None, (1,)), 0)], True), ([(1, ((1,), (1,)), 0)], False),
                           ([(1, (None, None), 0)], False), ([(0, (None, (1,)), 0)], False),
                           ([(1, (None, (0,)), 0)], False)):
            self.assertIs(keeps(world, run, Demand(2, 2, [rows], [0]), [[None, 1]]), told)

    def test_nobody_is_live(self):
        world = stops_world(1, 1)
        run = ((0,), (1,))
        self.assertEqual(states_of(world, run), (0, 1))
        self.assertIs(keeps(world, run, Demand(1, 1, [[(1, (None,), 0)]], [0]), [[None]]), True)
        self.assertIs(keeps(world, run, Demand(1, 1, [[(1, ((0,),), 0)]], [0]), [[None]]), False)
        self.assertIs(keeps(world, run, Demand(1, 1, [[]], [0]), [[None]]), False)

    def test_several_demand_states_are_possible(self):
        world = losses_world(1, 0)
        # It is not known which way is taken until the last output.
        states = [[(0, ((0,),), 1), (0, ((0,),), 2)], [(0, ((0, 1),), 1)], [(0, ((0, 2),), 2)], []]
        demand = Demand(1, 3, states, [0])
        for outputs in product(range(3), repeat=3):
            told = outputs[0] == 0 and not {1, 2} <= set(outputs)
            self.assertIs(keeps(world, ((0,), (0,) * 3), demand, [[output] for output in outputs]), told)
        every = Demand(1, 3, states, [0, 1, 2, 3])
        for outputs in product(range(3), repeat=3):
            self.assertIs(keeps(world, ((1,), (0,) * 3), every, [[output] for output in outputs]),
                          not {1, 2} <= set(outputs))

    def test_the_starts_go_by_the_inputs(self):
        world = losses_world(2, 0)
        states = [[(0, ((value,), (value,)), value)] for value in range(4)]
        demand = Demand(2, 4, states, [[0], [1], [2], [3]])
        for inputs, number in (((0, 0), 0), ((1, 0), 1), ((0, 1), 2), ((1, 1), 3)):
            for value in range(4):
                self.assertIs(keeps(world, (inputs, (0, 0)), demand, [[value] * 2] * 2), value == number)
        blind = losses_world(2, 0, blind=True)
        self.assertIs(keeps(blind, ((0, 0), (0,)), demand, [[0, 0]]), True)
        self.assertIs(keeps(blind, ((0, 0), (0,)), demand, [[1, 1]]), False)

    def test_runs_of_no_moves_keep_everything(self):
        for world in (losses_world(2, 1), stops_world(2, 2), silent_world(2, blind=True)):
            for demand in (Demand(2, 1, [[]], [0]), Demand(2, 3, STATES, [1])):
                for run in runs(world, 0):
                    for outputs in ((), []):
                        self.assertIs(keeps(world, run, demand, outputs), True)

    def test_all_small_cases(self):
        answers = []
        for seed in range(400):
            source = random.Random(seed)
            world = random_world(seed)
            demand = demanding.random_demand(source, world)
            run = source.choice(reference.all_runs(world, source.randint(0, 3)))
            outputs = []
            for number in states_of(world, run)[1:]:
                live = world.states[number][1]
                outputs.append([source.randrange(demand.outs) if node in live else None
                                for node in range(world.nodes)])
            told = demanding.kept(world, run, demand, outputs)
            self.assertIs(keeps(world, run, demand, outputs), told)
            answers.append(told)
        self.assertGreater(min(answers.count(True), answers.count(False)), 80)

    def test_5_rounds(self):
        world = losses_world(1, 0)
        count = Demand(1, 2, [[(0, ((0,),), min(at + 1, 4)), (0, ((1,),), at)] for at in range(4)] + [[]], [0])
        for outputs in product((0, 1), repeat=5):
            self.assertIs(keeps(world, ((0,), (0,) * 5), count, [[x] for x in outputs]),
                          outputs[:4] != (0, 0, 0, 0))

    def test_wrong_arguments(self):
        world = losses_world(2, 1)
        demand = Demand(2, 3, STATES, [0])
        three = Demand(3, 3, [[]], [0])
        run = ((0, 1), (0, 2))
        for wrong in JUNK + (((0, 0), (0,) * 6),):
            self.assertEqual(error_of(keeps, world, wrong, three, wrong), ("BadRun", -1))
        self.assertEqual(error_of(keeps, world, ((0, 0), (0, 3)), three, None), ("BadRun", 1))
        for other in (three, Demand(1, 3, [[]], [0]), Demand(4, 3, [[]], [0])):
            self.assertEqual(error_of(keeps, world, run, other, None), ("BadValue", 3))
        good = [0, 1]
        for wrong in JUNK + ([good], [good] * 3, good, [good, [0]], [good, [0, 1, 2]], [good, [0, 3]], [[-1, 0], good],
                             [good, [0, None]], [good, [None, None]], [good, [True, 0]], [good, [0, False]],
                             [good, ["0", 0]], [good, [(0,), 0]], [None, good], [good, 0]):
            self.assertEqual(error_of(keeps, world, run, demand, wrong), ("BadValue", 4), repr(wrong)[:80])
        for wrong in (x for x in JUNK if x not in ([], ())):
            self.assertEqual(error_of(keeps, world, ((0, 0), ()), demand, wrong), ("BadValue", 4))
        self.assertEqual(error_of(keeps, world, ((0, 0), ()), demand, [good]), ("BadValue", 4))
        stops = stops_world(2, 1)
        to_one = [at for at, move in enumerate(stops.states[0][3]) if move[2] == 1][0]
        for wrong in ([[0, 0]], [[0, None]], [[None, None]], [[False, 0]], [[(), 0]]):
            self.assertEqual(error_of(keeps, stops, ((0, 0), (to_one,)), demand, wrong), ("BadValue", 4))

    def test_many_runs_are_no_matter(self):
        every = demanding.anything(4, 2)
        self.assertIs(keeps(CROWDED, ((0,) * 4, (0,) * 5), every, [[0, 1, 0, 1]] * 5), True)

    def test_what_was_given_is_not_changed(self):
        run, outputs = [[0, 1], [0, 2]], [[0, 1], [2, 0]]
        before = copy.deepcopy((run, outputs))
        keeps(losses_world(2, 1), run, Demand(2, 3, STATES, [0]), outputs)
        self.assertEqual((run, outputs), before)


if __name__ == "__main__":
    unittest.main()
