"""Points 13 and 26: runs."""

import unittest

from alikeruns.runs import count_runs, runs, states_of
from alikeruns.worlds import World, hears_world, losses_world, stops_world
from tests import reference
from tests.values import JUNK, NOT_INTEGERS, chain_world, error_of, fan_world, is_plain, random_world


class AllRuns(unittest.TestCase):

    def test_two_nodes(self):
        world = stops_world(2, 1)
        self.assertEqual(runs(world, 0), (((0, 0), ()), ((0, 1), ()), ((1, 0), ()), ((1, 1), ())))
        self.assertEqual(runs(world, 1), tuple((inputs, (move,)) for inputs in ((0, 0), (0, 1), (1, 0), (1, 1))
                                               for move in range(5)))
        paths = ((0, 0), (0, 1), (0, 2), (0, 3), (0, 4), (1, 0), (2, 0), (3, 0), (4, 0))
        self.assertEqual(runs(world, 2), tuple((inputs, path) for inputs in ((0, 0), (0, 1), (1, 0), (1, 1))
                                               for path in paths))

    def test_blind_worlds_have_inputs_0_only(self):
        world = stops_world(2, 1, blind=True)
        self.assertEqual(runs(world, 0), (((0, 0), ()),))
        self.assertEqual(runs(world, 1), tuple(((0, 0), (move,)) for move in range(5)))
        self.assertEqual([count_runs(world, rounds) for rounds in range(6)], [1, 5, 9, 13, 17, 21])

    def test_runs_begin_at_the_start(self):
        world = World(2, stops_world(2, 2).states, 1)
        self.assertEqual(runs(world, 2)[:3], (((0, 0), (0, 0)), ((0, 0), (0, 1)), ((0, 0), (1, 0))))
        self.assertEqual(count_runs(world, 2), 12)

    def test_each_run_once_and_ascending(self):
        for seed in range(80):
            world = random_world(seed)
            for rounds in range(6):
                if count_runs(world, rounds) > 3000:
                    break
                found = runs(world, rounds)
                self.assertEqual(found, tuple(reference.all_runs(world, rounds)))
                self.assertEqual(list(found), sorted(set(found)))
                self.assertEqual(len(found), count_runs(world, rounds))
                self.assertTrue(is_plain(found))

    def test_each_run_is_a_run(self):
        world = stops_world(3, 1)
        for run in runs(world, 2):
            self.assertEqual(len(states_of(world, run)), 3)

    def test_counts(self):
        self.assertEqual([count_runs(stops_world(2, 1), rounds) for rounds in range(6)], [4, 20, 36, 52, 68, 84])
        self.assertEqual([count_runs(losses_world(3, 6), rounds) for rounds in range(6)],
                         [8 * 64 ** rounds for rounds in range(6)])
        self.assertEqual(count_runs(losses_world(4, 5, blind=True), 5), 1586 ** 5)
        self.assertEqual(count_runs(hears_world(4, 2), 5), 16 * 256 ** 5)

    def test_30000_runs_and_more(self):
        just = fan_world(15, 0)
        self.assertEqual(count_runs(just, 2), 30000)
        found = runs(just, 2)
        self.assertEqual((len(found), found[0], found[-1]), (30000, ((0,), (0, 0)), ((0,), (14, 1999))))
        over = fan_world(15, 1)
        self.assertEqual(count_runs(over, 2), 30001)
        self.assertEqual(error_of(runs, over, 2), ("TooMany", "runs"))
        self.assertEqual(len(runs(over, 1)), 16)
        self.assertEqual(error_of(runs, stops_world(4, 2), 4), ("TooMany", "runs"))
        self.assertEqual(error_of(runs, losses_world(4, 5), 5), ("TooMany", "runs"))
        self.assertEqual(len(runs(stops_world(4, 2), 3)), 24592)

    def test_inputs_count_among_the_runs(self):
        self.assertEqual(len(runs(chain_world([1500, 1], nodes=4, blind=False), 1)), 24000)
        self.assertEqual(error_of(runs, chain_world([1876, 1], nodes=4, blind=False), 1), ("TooMany", "runs"))
        self.assertEqual(len(runs(chain_world([1875, 1], nodes=4, blind=False), 1)), 30000)
        self.assertEqual(len(runs(chain_world([1876, 1], nodes=4), 1)), 1876)

    def test_rounds_that_are_none(self):
        world = stops_world(2, 1)
        for rounds in (-1, 6, 10 ** 30, -10 ** 30) + NOT_INTEGERS:
            self.assertEqual(error_of(count_runs, world, rounds), ("BadValue", 2))
            self.assertEqual(error_of(runs, world, rounds), ("BadValue", 2))
            self.assertEqual(error_of(runs, losses_world(4, 5), rounds), ("BadValue", 2))
        for rounds in (0, 5):
            self.assertEqual(len(runs(world, rounds)), count_runs(world, rounds))


class StatesOf(unittest.TestCase):

    def test_the_states_at_all_times(self):
        world = stops_world(2, 2)
        self.assertEqual(states_of(world, ((0, 1), ())), (0,))
        self.assertEqual(states_of(world, ((0, 1), (0, 0, 3, 0, 1))), (0, 0, 0, 2, 2, 3))
        self.assertEqual(states_of(world, [[1, 1], [5, 0]]), (0, 3, 3))
        self.assertEqual(states_of(World(2, world.states, 1), ((0, 0), (0, 1))), (1, 1, 3))
        self.assertTrue(is_plain(states_of(world, [[1, 1], [5, 0]])))

    def test_random_worlds(self):
        for seed in range(40):
            world = random_world(seed)
            for run in reference.all_runs(world, 2):
                taken = [world.start] + [reference.taken(world, run, time)[1][-1][2] for time in (1, 2)]
                self.assertEqual(states_of(world, run), tuple(taken))

    def test_runs_that_are_no_pair_of_sequences(self):
        world = stops_world(2, 1)
        for run in JUNK + (((0, 0),), ((0, 0), (), ()), ("00", ()), ((0, 0), ""), ((0, 0), None), (None, ()),
                           ((0, 0), 0), (0, 0), "ab", ((0, 0), False)):
            self.assertEqual(error_of(states_of, world, run), ("BadRun", -1), repr(run)[:80])

    def test_runs_of_more_than_5_moves(self):
        world = stops_world(2, 1)
        self.assertEqual(states_of(world, ((0, 0), (0,) * 5)), (0,) * 6)
        for moves in ((0,) * 6, [0] * 6, (9,) * 6, (None,) * 6, (0,) * 20000):
            self.assertEqual(error_of(states_of, world, ((0, 0), moves)), ("BadRun", -1))

    def test_wrong_inputs(self):
        world = stops_world(2, 1)
        for inputs in ((), (0,), (0, 0, 0), (0, 2), (2, 0), (-1, 0), (0, True), (False, 0), (None, 0), ("0", 0),
                       ((0,), 0), "00") + JUNK:
            for moves in ((), (0,), (9,), (None,), (0,) * 6):
                self.assertEqual(error_of(states_of, world, (inputs, moves)), ("BadRun", -1), repr(inputs)[:80])
        blind = stops_world(2, 1, blind=True)
        for inputs in ((0, 1), (1, 0), (1, 1), (0, False)):
            self.assertEqual(error_of(states_of, blind, (inputs, ())), ("BadRun", -1))
        self.assertEqual(states_of(blind, ((0, 0), ())), (0,))

    def test_wrong_moves_at_any_place(self):
        world = stops_world(2, 1)
        good = (0, 0, 0, 3, 0)
        for place in range(5):
            many = len(world.states[states_of(world, ((0, 0), good))[place]][3])
            for move in (-1, many, many + 1) + JUNK:
                moves = list(good)
                moves[place] = move
                self.assertEqual(error_of(states_of, world, ((0, 0), moves)), ("BadRun", place), repr(move)[:80])
                self.assertEqual(error_of(states_of, world, ((0, 0), moves[:place + 1])), ("BadRun", place))

    def test_the_first_wrong_move_is_told(self):
        world = stops_world(2, 1)
        self.assertEqual(error_of(states_of, world, ((0, 0), (0, None, 9))), ("BadRun", 1))
        self.assertEqual(error_of(states_of, world, ((0, 0), (1, 1, None, 0))), ("BadRun", 1))
        self.assertEqual(error_of(states_of, world, ((0, 0), (5, 5))), ("BadRun", 0))

    def test_random_faults(self):
        for seed in range(60):
            world = random_world(seed)
            for inputs in ((0,) * world.nodes, (1,) * world.nodes, (0,) * (world.nodes + 1)):
                for moves in ((0, 0, 0, 0, 0), (0, 1, 0), (1, 1, 1, 1), (2, 0, 2), (0, 0, 2), (0, True), (0,) * 6):
                    wrong = reference.run_error(world, (inputs, moves))
                    wrong = None if wrong is None else ("BadRun", wrong)
                    self.assertEqual(error_of(states_of, world, (inputs, moves)), wrong)

    def test_what_was_given_is_not_changed(self):
        run = [[0, 1], [0, 3, 0]]
        states_of(stops_world(2, 1), run)
        self.assertEqual(run, [[0, 1], [0, 3, 0]])


if __name__ == "__main__":
    unittest.main()
