"""Points 12, 27 and 28: sights, and runs that look alike."""

import unittest

from alikeruns.runs import count_runs, runs, states_of
from alikeruns.sights import alike, sight
from alikeruns.worlds import World, hears_world, stops_world
from tests import reference
from tests.values import JUNK, NOT_INTEGERS, error_of, fan_world, is_plain, random_world

WORLD = stops_world(2, 1)
# In round 1 both are heard; in round 2 node 1 is heard and stops (move 4) or
# is not heard and stops (move 3), or node 0 does (moves 1 and 2).
RUN = ((0, 1), (0, 4, 0))


def all_of(world, rounds):
    """All runs of at most so many moves."""
    return [run for time in range(rounds + 1) for run in runs(world, time)]


class Sights(unittest.TestCase):

    def test_the_sights_of_a_run(self):
        self.assertEqual(sight(WORLD, RUN, 0, 0), (0, 0))
        self.assertEqual(sight(WORLD, RUN, 1, 0), (1, 1))
        self.assertEqual(sight(WORLD, RUN, 0, 1), ((0, 0), 0, ((1, 1),)))
        self.assertEqual(sight(WORLD, RUN, 1, 1), ((1, 1), 0, ((0, 0),)))
        second = (((0, 0), 0, ((1, 1),)), 0, (((1, 1), 0, ((0, 0),)),))
        self.assertEqual(sight(WORLD, RUN, 0, 2), second)
        self.assertEqual(sight(WORLD, RUN, 0, 3), (second, 0, ()))
        self.assertEqual(sight(WORLD, ((0, 1), (0, 3)), 0, 2), (((0, 0), 0, ((1, 1),)), 0, ()))

    def test_hints_and_the_order_of_what_is_heard(self):
        heard = ((1, 2), (0, 2), ())
        world = World(3, [(0, (0, 1, 2), False, [(heard, (-1000, 7, 1000), 0), (heard, (0, 0, 0), 0)])], 0)
        run = ((1, 0, 1), (0, 1))
        self.assertEqual(sight(world, run, 0, 1), ((0, 1), -1000, ((1, 0), (2, 1))))
        self.assertEqual(sight(world, run, 1, 1), ((1, 0), 7, ((0, 1), (2, 1))))
        self.assertEqual(sight(world, run, 2, 1), ((2, 1), 1000, ()))
        self.assertEqual(sight(world, run, 1, 2), (((1, 0), 7, ((0, 1), (2, 1))), 0,
                                                   (((0, 1), -1000, ((1, 0), (2, 1))), ((2, 1), 1000, ()))))

    def test_a_sight_does_not_hang_on_later_moves(self):
        for run in runs(WORLD, 3):
            for time in range(4):
                for node in WORLD.states[states_of(WORLD, run)[time]][1]:
                    self.assertEqual(sight(WORLD, run, node, time), sight(WORLD, (run[0], run[1][:time]), node, time))

    def test_random_worlds(self):
        for seed in range(60):
            world = random_world(seed)
            for run in reference.all_runs(world, 2)[:200]:
                for time in range(3):
                    for node in range(world.nodes):
                        told = reference.sight_of(world, run, node, time)
                        if told is None:
                            self.assertEqual(error_of(sight, world, run, node, time), ("BadValue", 3))
                        else:
                            self.assertEqual(sight(world, run, node, time), told)
                            self.assertTrue(is_plain(sight(world, run, node, time)))

    def test_five_rounds_of_four_nodes(self):
        world = stops_world(4, 4)
        for moves in ((0, 0, 0, 0, 0), (0, 1, 2, 3, 0), (2, 0, 1, 0, 3)):
            run = ((1, 0, 0, 1), moves)
            for node in world.states[states_of(world, run)[5]][1]:
                told = sight(world, run, node, 5)
                self.assertEqual(told, reference.sight_of(world, run, node, 5))
                self.assertTrue(is_plain(told))

    def test_lists_in_place_of_tuples(self):
        run = [[0, 1], [0, 4, 0]]
        found = sight(WORLD, run, 0, 3)
        self.assertEqual(found, sight(WORLD, RUN, 0, 3))
        self.assertTrue(is_plain(found))
        self.assertEqual(run, [[0, 1], [0, 4, 0]])
        run[0][0] = 1
        run[1].clear()
        self.assertEqual(found, sight(WORLD, RUN, 0, 3))

    def test_wrong_runs(self):
        wrong = [(run, -1) for run in JUNK + (((0, 1, 0), ()), ((0, 2), ()), ((0, 1), (0,) * 6), ((0, True), ()))]
        wrong += [(((0, 1), (5,)), 0), (((0, 1), (0, 4, 1)), 2), (((0, 1), (0, None, 9)), 1)]
        for run, at in wrong:
            for node, time in ((0, 0), (9, 9), (None, None), (0, "x"), ([], 0)):
                self.assertEqual(error_of(sight, WORLD, run, node, time), ("BadRun", at))

    def test_wrong_times_go_ahead_of_wrong_nodes(self):
        for time in (-1, 4, 5, 10 ** 30) + NOT_INTEGERS:
            for node in (0, 1, 2, None, True):
                self.assertEqual(error_of(sight, WORLD, RUN, node, time), ("BadValue", 4))
        self.assertEqual(error_of(sight, WORLD, ((0, 1), ()), 0, 1), ("BadValue", 4))

    def test_wrong_nodes(self):
        for node in (-1, 2, 3, 4) + JUNK:
            for time in range(4):
                self.assertEqual(error_of(sight, WORLD, RUN, node, time), ("BadValue", 3))

    def test_nodes_that_are_not_live_at_the_time(self):
        self.assertIsNone(error_of(sight, WORLD, RUN, 1, 1))
        for time in (2, 3):
            self.assertIsNone(error_of(sight, WORLD, RUN, 0, time))
            self.assertEqual(error_of(sight, WORLD, RUN, 1, time), ("BadValue", 3))
        late = World(2, WORLD.states, 1)
        self.assertEqual(error_of(sight, late, ((0, 0), ()), 0, 0), ("BadValue", 3))
        self.assertEqual(sight(late, ((0, 0), ()), 1, 0), (1, 0))


class Alike(unittest.TestCase):

    def test_two_nodes(self):
        # Node 0 cannot tell whether its message has reached node 1.
        both = ((0, 1), (0, 0))
        lost = ((0, 1), (0, 3))
        self.assertTrue(alike(WORLD, both, lost, 0, 1))
        self.assertTrue(alike(WORLD, both, lost, 1, 1))
        self.assertFalse(alike(WORLD, both, lost, 0, 2))
        self.assertTrue(alike(WORLD, both, ((0, 1), (0, 4)), 0, 2))
        self.assertFalse(alike(WORLD, both, ((0, 1), (0, 4)), 1, 2))
        self.assertTrue(alike(WORLD, lost, ((0, 0), (0, 3)), 0, 0))
        self.assertFalse(alike(WORLD, lost, ((0, 0), (0, 3)), 0, 1))
        self.assertFalse(alike(WORLD, lost, ((0, 0), (0, 3)), 1, 0))
        self.assertTrue(alike(WORLD, ((0, 1), (3,)), ((0, 0), (3,)), 0, 1))

    def test_the_answer_is_a_bool(self):
        self.assertIs(alike(WORLD, RUN, RUN, 0, 0), True)
        self.assertIs(alike(WORLD, RUN, RUN, 1, 3), False)
        self.assertIs(alike(WORLD, RUN, RUN, 0, 4), False)
        self.assertIs(alike(WORLD, RUN, ((1, 1), ()), 0, 0), False)

    def test_hints_tell_runs_apart(self):
        world = World(2, [(0, (0, 1), False, [(((), ()), (0, hint), 0) for hint in (3, 4)])], 0)
        self.assertTrue(alike(world, ((0, 0), (0,)), ((0, 1), (1,)), 0, 1))
        self.assertFalse(alike(world, ((0, 0), (0,)), ((0, 0), (1,)), 1, 1))
        self.assertTrue(alike(world, ((0, 0), (0, 0)), ((1, 0), (0, 1)), 1, 1))
        self.assertFalse(alike(world, ((0, 0), (0, 1)), ((0, 0), (1, 0)), 1, 2))

    def test_states_and_marks_do_not_tell_runs_apart(self):
        stay = (((), ()), (0, 0))
        states = [(0, (0, 1), False, [stay + (1,), stay + (2,)]), (1, (0, 1), False, [stay + (1,)]),
                  (2, (0, 1), True, [stay + (2,)])]
        self.assertTrue(alike(World(2, states, 0), ((0, 0), (0, 0)), ((0, 1), (1, 0)), 0, 2))

    def test_a_node_that_is_not_live_in_one_of_both(self):
        alive, stopped = ((0, 0), (0, 0)), ((0, 0), (4, 0))
        for one, other in ((alive, stopped), (stopped, alive), (stopped, stopped)):
            self.assertTrue(alike(WORLD, one, other, 1, 0))
            self.assertFalse(alike(WORLD, one, other, 1, 1))
            self.assertFalse(alike(WORLD, one, other, 1, 2))

    def test_runs_of_different_lengths(self):
        self.assertTrue(alike(WORLD, RUN, (RUN[0], RUN[1][:2]), 0, 2))
        self.assertFalse(alike(WORLD, RUN, (RUN[0], RUN[1][:2]), 0, 3))
        self.assertFalse(alike(WORLD, (RUN[0], RUN[1][:2]), RUN, 0, 3))
        self.assertTrue(alike(WORLD, (RUN[0], RUN[1][:2]), RUN, 0, 2))
        for time in (4, 5, 6, 10 ** 30):
            self.assertFalse(alike(WORLD, RUN, RUN, 0, time))
        self.assertFalse(alike(WORLD, RUN, ((0, 1), ()), 0, 1))

    def test_a_run_looks_like_itself_to_who_is_live(self):
        for run in all_of(WORLD, 3):
            states = states_of(WORLD, run)
            for time in range(5):
                for node in (0, 1):
                    live = time < len(states) and node in WORLD.states[states[time]][1]
                    self.assertIs(alike(WORLD, run, run, node, time), live)

    def check_world(self, world, rounds):
        found = all_of(world, rounds)
        for one in found:
            for other in found:
                for time in range(rounds + 2):
                    for node in range(world.nodes):
                        short = time > min(len(one[1]), len(other[1]))
                        wanted = not short and reference.look_alike(world, one, other, node, time)
                        self.assertIs(alike(world, one, other, node, time), wanted)

    def test_alike_is_what_was_got(self):
        self.check_world(WORLD, 2)
        self.check_world(hears_world(2, 0, blind=True), 2)
        for seed in range(40):
            world = random_world(seed)
            if count_runs(world, 2) <= 30:
                self.check_world(world, 2)

    def test_alike_is_to_have_the_same_sight(self):
        world = stops_world(3, 1)
        found = runs(world, 1)[::3]
        for one in found:
            for other in found:
                for node in range(3):
                    told = [reference.sight_of(world, run, node, 1) for run in (one, other)]
                    self.assertIs(alike(world, one, other, node, 1), told[0] is not None and told[0] == told[1])

    def test_five_rounds_of_four_nodes(self):
        world = stops_world(4, 4)
        one, other = ((1, 0, 0, 1), (0, 0, 0, 0, 0)), ((1, 0, 1, 1), (0, 0, 0, 0, 0))
        for node in range(4):
            self.assertTrue(alike(world, one, one, node, 5))
            self.assertFalse(alike(world, one, other, node, 5))
            self.assertIs(alike(world, one, other, node, 0), node != 2)

    def test_wrong_runs(self):
        good = ((0, 1), ())
        wrong = [(run, -1) for run in JUNK + (((0, 1, 0), ()), ((0, 2), ()), ((0, 1), (0,) * 6), ((0, True), ()))]
        wrong += [(((0, 1), (5,)), 0), (((0, 1), (0, 4, 1)), 2), (((0, 1), (0, None, 9)), 1)]
        for run, at in wrong:
            for time in (0, 9, -1, None):
                self.assertEqual(error_of(alike, WORLD, run, good, 0, time), ("BadRun", at))
                self.assertEqual(error_of(alike, WORLD, good, run, 0, time), ("BadRun", at))
                self.assertEqual(error_of(alike, WORLD, run, ((0, 1), (0, 0, 0, 0, 8)), 0, time), ("BadRun", at))
                self.assertEqual(error_of(alike, WORLD, ((0, 1), (0, 0, 0, 0, 8)), run, 0, time), ("BadRun", 4))

    def test_wrong_times(self):
        for time in (-1, -10 ** 30) + NOT_INTEGERS:
            self.assertEqual(error_of(alike, WORLD, RUN, RUN, 0, time), ("BadValue", 5))
            self.assertEqual(error_of(alike, WORLD, RUN, ((0, 1), ()), 1, time), ("BadValue", 5))

    def test_nodes_that_the_world_does_not_have(self):
        for node in (-1, -2, 2, 3, 4):
            for time in (0, 1, 7):
                self.assertIs(alike(WORLD, RUN, RUN, node, time), False)

    def test_lists_in_place_of_tuples(self):
        one, other = [[0, 1], [0, 4, 0]], [[0, 1], [0, 4]]
        self.assertTrue(alike(WORLD, one, other, 0, 2))
        self.assertEqual((one, other), ([[0, 1], [0, 4, 0]], [[0, 1], [0, 4]]))

    def test_no_bound_on_the_number_of_runs(self):
        world = fan_world(1000, 1000)
        self.assertTrue(alike(world, ((0,), (0, 0)), ((0,), (0, 0)), 0, 2))
        self.assertEqual(sight(world, ((0,), (0, 0)), 0, 2), (((0, 0), 0, ()), -1000, ()))


if __name__ == "__main__":
    unittest.main()
