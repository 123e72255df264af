"""Points 24 and 25: with_due, stops_due and with_marks."""

import unittest

from alikeruns.worlds import World, losses_world, stops_due, stops_world, with_due, with_marks
from tests import reference
from tests.values import JUNK, NOT_SEQUENCES, chain_world, error_of, is_plain, random_world

NO_PAIRS = ([None], [0], ["ab"], [()], [(0,)], [(0, 0, 0)], [[0, 0], (0,)], [(0, 0), None], [(0, None)], [(None, 0)],
            [(True, 0)], [(0, True)], [(0, False)], [("0", 0)], [(0, "0")], [((0,), 0)], [(0, (0,))], [(0, 0), (0, 0)],
            [(0, 0), [0, 1]], ((1, 2), (2, 1), (1, 3)), (0, 0), "(0, 0)")


def due_marks(world):
    return [(state[0], state[2]) for state in world.states]


class Due(unittest.TestCase):

    def test_one_node_that_may_stop(self):
        stay, stop = (((),), (0,)), ((None,), (None,))
        states = [(0, (0,), False, (stay + (1,), stop + (2,)))]
        for rounds in (1, 2, 3, 4):
            live, dead = 2 * rounds + 1, 2 * rounds + 2
            states.append((0, (0,), rounds >= 3, (stay + (live,), stop + (dead,))))
            states.append((1, (), True, (stop + (dead,),)))
        states.append((0, (0,), True, (stay + (9,), stop + (10,))))
        states.append((1, (), True, (stop + (10,),)))
        world = with_due(stops_world(1, 1), ((0, 3), (1, 0)))
        self.assertEqual(world.states, tuple(states))
        self.assertEqual((world.nodes, world.start, world.blind), (1, 0, False))

    def test_a_state_is_due_exactly_if_its_mark_has_a_time_that_has_come(self):
        for time in range(6):
            world = with_due(losses_world(2, 0), [[0, time]])
            self.assertEqual([state[2] for state in world.states], [rounds >= time for rounds in range(6)])

    def test_what_is_due_in_the_world_does_not_matter(self):
        world = World(1, [(3, (0,), True, [(((),), (4,), 0)])], 0)
        self.assertEqual(due_marks(with_due(world, ())), [(3, False)] * 6)
        self.assertEqual(due_marks(with_due(world, [(4, 0)])), [(3, False)] * 6)
        self.assertEqual(due_marks(with_due(world, [(3, 5)])), [(3, False)] * 5 + [(3, True)])

    def test_the_number_of_rounds_stays_at_5(self):
        world = with_due(losses_world(1, 0), ())
        self.assertEqual([state[3][0][2] for state in world.states], [1, 2, 3, 4, 5, 5])
        six = chain_world([1] * 9)
        counted = with_due(six, [(8, 5), (5, 5), (6, 4)])
        self.assertEqual(due_marks(counted), [(0, False), (1, False), (2, False), (3, False), (4, False),
                                              (5, True), (6, True), (7, False), (8, True)])
        self.assertEqual([state[3][0][2] for state in counted.states], [1, 2, 3, 4, 5, 6, 7, 8, 8])

    def test_only_what_can_be_reached_is_a_state(self):
        states = (((0, (0,), False, ((((),), (0,), 2),))), (1, (0,), False, ((((),), (0,), 1), (((),), (0,), 0))),
                  (2, (0,), False, ((((),), (0,), 0),)))
        self.assertEqual([state[0] for state in with_due(World(1, states, 0), ()).states], [0, 2, 0, 2, 0, 0, 2])
        self.assertEqual([state[0] for state in with_due(World(1, states, 2), ()).states], [2, 0, 2, 0, 2, 0, 2])

    def test_states_are_numbered_by_rounds_and_then_by_states(self):
        world = with_due(stops_world(3, 2), stops_due(3, 2))
        self.assertEqual([state[0] for state in world.states], [0] + [0, 1, 2, 3, 4, 5, 6] * 5)

    def test_the_start_and_blind_are_kept(self):
        for blind in (True, False):
            world = with_due(World(1, chain_world([1, 2]).states, 1, blind=blind), ())
            self.assertEqual((world.start, world.blind, world.nodes), (0, blind, 1))
            self.assertEqual([state[0] for state in world.states], [1] * 6)

    def test_marks_that_no_state_has_and_any_integers_are_taken(self):
        world = with_due(losses_world(1, 0), [(10 ** 30, 0), (-10 ** 30, 5), (-1, 2), [0, 5], (10001, 0)])
        self.assertEqual([state[2] for state in world.states], [False] * 5 + [True])

    def test_random_worlds(self):
        for seed in range(150):
            world = random_world(seed, most_nodes=4, most_states=6)
            dues = [(mark, (seed + mark) % 6) for mark in (0, 1, 7) if (seed >> mark) % 2]
            counted = with_due(world, dues)
            self.assertEqual(counted.states, reference.due_states(world.states, world.start, dues))
            self.assertEqual((counted.nodes, counted.start, counted.blind), (world.nodes, 0, world.blind))
            self.assertTrue(is_plain(counted.states))

    def test_400_states_and_401(self):
        # The start once, each state behind it at 5 numbers of rounds, and the
        # one behind these at 4.
        self.assertEqual(len(with_due(wide_world(79, True), ())), 400)
        self.assertEqual(error_of(with_due, wide_world(80, False), ()), ("TooMany", "states"))
        self.assertEqual(error_of(with_due, wide_world(398, True), ()), ("TooMany", "states"))
        self.assertEqual(error_of(with_due, wide_world(80, False), [(0, 6)]), ("BadValue", 2))

    def test_wrong_dues(self):
        world = losses_world(2, 1)
        for dues in NOT_SEQUENCES + NO_PAIRS + ([(0, 6)], [(0, -1)], [(0, 10 ** 30)], [(1, 0), (0, 6)], [0] * 20000):
            self.assertEqual(error_of(with_due, world, dues), ("BadValue", 2), repr(dues)[:80])

    def test_dues_without_a_pair(self):
        for dues in ((), []):
            self.assertEqual(len(with_due(losses_world(2, 1), dues)), 6)

    def test_what_was_given_is_not_changed_and_not_kept(self):
        dues = [[0, 1]]
        world = losses_world(1, 0)
        counted = with_due(world, dues)
        self.assertEqual(dues, [[0, 1]])
        dues[0][1] = 5
        dues.append([1, 1])
        self.assertEqual([state[2] for state in counted.states], [False] + [True] * 5)
        self.assertEqual(world, losses_world(1, 0))


def wide_world(many, last):
    """A start that leads to so many states, which stay; if last is True, one more behind the first of them."""
    def state(*targets):
        return (0, (0,), False, tuple((((),), (0,), to) for to in targets))
    states = [state(*range(1, many + 1))] + [state(number) for number in range(1, many + 1)]
    if last:
        states[1] = state(1, many + 1)
        states.append(state(many + 1))
    return World(1, states, 0)


class StopsDue(unittest.TestCase):

    def test_the_times(self):
        self.assertEqual(stops_due(3, 1), ((0, 1), (1, 2), (2, 2), (4, 2)))
        self.assertEqual(stops_due(3, 2), ((0, 2), (1, 2), (2, 2), (3, 3), (4, 2), (5, 3), (6, 3)))
        self.assertEqual(stops_due(4, 3), ((0, 2), (1, 3), (2, 3), (3, 3), (4, 3), (5, 3), (6, 3), (7, 4), (8, 3),
                                           (9, 3), (10, 3), (11, 4), (12, 3), (13, 4), (14, 4)))
        self.assertEqual(stops_due(4, 4)[-2:], ((14, 4), (15, 5)))
        self.assertEqual(stops_due(1, 0), ((0, 1),))
        self.assertEqual(stops_due(1, 1), ((0, 1), (1, 2)))
        self.assertEqual(stops_due(2, 2), ((0, 2), (1, 2), (2, 2), (3, 3)))

    def test_all_numbers_of_nodes(self):
        for nodes in (1, 2, 3, 4):
            for most in range(nodes + 1):
                due = stops_due(nodes, most)
                self.assertEqual([mark for mark, _ in due], [state[0] for state in stops_world(nodes, most).states])
                for mark, time in due:
                    stopped = len(reference.bits(mark))
                    self.assertEqual(time, stopped + 2 if stopped <= most - 2 else stopped + 1)
                self.assertTrue(is_plain(due))
                self.assertGreaterEqual(len(with_due(stops_world(nodes, most), due)), 6)

    def test_wrong_arguments(self):
        for nodes in (0, 5, -1) + JUNK:
            self.assertEqual(error_of(stops_due, nodes, None), ("BadValue", 1))
        for nodes in (1, 2, 3, 4):
            for most in (-1, nodes + 1) + JUNK:
                self.assertEqual(error_of(stops_due, nodes, most), ("BadValue", 2))


class Marks(unittest.TestCase):

    def test_marks_are_changed_and_the_others_kept(self):
        world = with_marks(stops_world(2, 2), ((1, 5), (3, 10000), (2, 0), (77, 78)))
        self.assertEqual([state[0] for state in world.states], [0, 5, 0, 10000])
        self.assertEqual([state[1:] for state in world.states], [state[1:] for state in stops_world(2, 2).states])
        self.assertEqual((world.nodes, world.start, world.blind), (2, 0, False))
        self.assertTrue(is_plain(world.states))

    def test_marks_are_changed_one_for_another(self):
        world = with_marks(stops_world(2, 2), [[1, 2], [2, 1], [0, 3], [3, 0]])
        self.assertEqual([state[0] for state in world.states], [3, 2, 1, 0])
        world = with_marks(stops_world(2, 2), [(0, 1), (1, 2), (2, 3)])
        self.assertEqual([state[0] for state in world.states], [1, 2, 3, 3])

    def test_all_else_is_kept(self):
        for seed in range(60):
            world = random_world(seed)
            changed = with_marks(world, [(0, 1), (1, 0), (10000, 3)])
            news = {0: 1, 1: 0, 10000: 3}
            states = tuple((news.get(state[0], state[0]),) + state[1:] for state in world.states)
            self.assertEqual(changed, World(world.nodes, states, world.start, blind=world.blind))
        self.assertEqual(with_marks(random_world(3), ()), random_world(3))
        self.assertEqual(with_marks(random_world(3), []), random_world(3))
        due = with_due(stops_world(2, 1, blind=True), [(0, 1), (2, 3)])
        self.assertEqual([state[2] for state in with_marks(due, [(0, 2)]).states], [state[2] for state in due.states])
        self.assertIs(with_marks(due, [(0, 2)]).blind, True)
        self.assertEqual(with_marks(World(1, chain_world([1, 2]).states, 1), [(0, 2)]).start, 1)

    def test_wrong_pairs(self):
        world = stops_world(2, 1)
        for pairs in NOT_SEQUENCES + NO_PAIRS + ([(0, -1)], [(-1, 0)], [(10001, 0)], [(0, 10001)], [(5, 6), (0, 10001)],
                                                 [(10 ** 30, 0)], [(0, -10 ** 30)], [0] * 20000):
            self.assertEqual(error_of(with_marks, world, pairs), ("BadValue", 2), repr(pairs)[:80])
        for pairs in ([(0, 10000)], [(10000, 0)], [(10000, 10000)], [(0, 0)], [(0, 1), (1, 1)]):
            self.assertIsNone(error_of(with_marks, world, pairs))

    def test_what_was_given_is_not_changed_and_not_kept(self):
        pairs = [[0, 9]]
        world = losses_world(1, 0)
        changed = with_marks(world, pairs)
        self.assertEqual(pairs, [[0, 9]])
        pairs[0][1] = 5
        self.assertEqual(changed.states[0][0], 9)
        self.assertEqual(world, losses_world(1, 0))


if __name__ == "__main__":
    unittest.main()
