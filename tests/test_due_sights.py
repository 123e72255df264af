"""Point 30: the sights that are due."""

import unittest

from alikeruns.runs import count_runs
from alikeruns.sights import due_sights
from alikeruns.worlds import World, hears_world, losses_world, stops_due, stops_world, with_due
from tests import reference
from tests.values import NOT_INTEGERS, chain_world, error_of, fan_world, is_plain, random_world


class DueSights(unittest.TestCase):

    def test_two_nodes(self):
        world = with_due(stops_world(2, 1), ((0, 1), (1, 2)))
        heard = tuple(((node, mine), 0, ((1 - node, yours),)) for mine, yours in ((0, 0), (0, 1), (1, 0), (1, 1))
                      for node in (0, 1))
        # Of each run of one move in order, first what node 0 and then what
        # node 1 has got; inputs are (0, 0), (0, 1), (1, 0), (1, 1).
        wanted = (heard[0], heard[1], heard[2], heard[5], heard[4], heard[3], heard[6], heard[7])
        self.assertEqual(due_sights(world, 1), wanted)
        self.assertEqual(due_sights(world, 0), ())
        self.assertEqual(due_sights(world, 2)[:8], wanted)

    def test_time_0(self):
        world = with_due(stops_world(2, 1), ((0, 0),))
        self.assertEqual(due_sights(world, 0), ((0, 0), (1, 0), (1, 1), (0, 1)))
        blind = with_due(stops_world(2, 1, blind=True), ((0, 0),))
        self.assertEqual(due_sights(blind, 0), ((0, 0), (1, 0)))

    def test_the_order_of_runs_and_then_of_nodes(self):
        def move(hint, to):
            return (((), ()), (hint, hint), to)
        states = [(0, (0, 1), False, [move(4, 2), move(9, 1), move(3, 1), move(4, 1)]),
                  (1, (0, 1), True, [move(0, 2)]), (2, (0, 1), False, [move(5, 1), move(1, 2)])]
        world = World(2, states, 0, blind=True)
        first = tuple(((node, 0), hint, ()) for hint in (9, 3, 4) for node in (0, 1))
        self.assertEqual(due_sights(world, 1), first)
        second = tuple((((node, 0), 4, ()), 5, ()) for node in (0, 1))
        self.assertEqual(due_sights(world, 2), first + second)

    def test_nothing_is_due_in_the_worlds_of_the_families(self):
        for world in (stops_world(3, 2), losses_world(3, 1), hears_world(2, 0)):
            self.assertEqual(due_sights(world, 2), ())

    def test_each_sight_once_though_it_is_due_in_many_runs(self):
        world = with_due(stops_world(3, 1), stops_due(3, 1))
        found = due_sights(world, 3)
        self.assertEqual(len(set(map(repr, found))), len(found))
        self.assertEqual(found, reference.due_of(world, 3))

    def test_who_is_not_live_has_no_sight(self):
        dead = ((None, None), (None, None), 1)
        world = World(2, [(0, (0, 1), False, [dead]), (1, (), True, [dead])], 0)
        for rounds in range(6):
            self.assertEqual(due_sights(world, rounds), ())
        world = World(2, [(0, (0, 1), False, [((None, (0,)), (None, 2), 1)]),
                          (1, (1,), True, [((None, ()), (None, 3), 1)])], 0, blind=True)
        self.assertEqual(due_sights(world, 2), (((1, 0), 2, ((0, 0),)), (((1, 0), 2, ((0, 0),)), 3, ())))

    def test_random_worlds(self):
        many = 0
        for seed in range(150):
            world = random_world(seed)
            for rounds in range(5):
                if count_runs(world, rounds) > 400:
                    break
                found = due_sights(world, rounds)
                self.assertEqual(found, reference.due_of(world, rounds))
                self.assertTrue(is_plain(found))
                many += len(found)
        self.assertGreater(many, 5000)

    def test_five_rounds(self):
        world = with_due(stops_world(2, 2), ((0, 5), (1, 4), (2, 5), (3, 0)))
        self.assertEqual(due_sights(world, 5), reference.due_of(world, 5))
        self.assertEqual(len(due_sights(with_due(losses_world(1, 0), [(0, 0)]), 5)), 12)

    def test_wrong_rounds(self):
        for rounds in (-1, 6, 10 ** 30) + NOT_INTEGERS:
            self.assertEqual(error_of(due_sights, losses_world(2, 1), rounds), ("BadValue", 2))
            self.assertEqual(error_of(due_sights, losses_world(4, 5), rounds), ("BadValue", 2))

    def test_30000_runs_and_more(self):
        found = due_sights(fan_world(15, 0), 2)
        self.assertEqual(found, tuple(((0, 0), hint, ()) for hint in range(15)))
        self.assertEqual(error_of(due_sights, fan_world(15, 1), 2), ("TooMany", "runs"))
        self.assertEqual(len(due_sights(fan_world(15, 1), 1)), 15)
        self.assertEqual(error_of(due_sights, losses_world(4, 5), 2), ("TooMany", "runs"))
        self.assertEqual(due_sights(chain_world([1875, 1], nodes=4, blind=False), 1), ())
        self.assertEqual(error_of(due_sights, chain_world([1876, 1], nodes=4, blind=False), 1), ("TooMany", "runs"))


if __name__ == "__main__":
    unittest.main()
