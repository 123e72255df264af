"""Points 21 to 23: stops_world, losses_world and hears_world."""

import unittest

from alikeruns.worlds import World, hears_world, losses_world, stops_world
from tests import reference
from tests.values import JUNK, error_of, is_plain

FAMILIES = (stops_world, losses_world, hears_world)


class Stops(unittest.TestCase):

    def test_two_nodes_of_which_one_stops(self):
        world = stops_world(2, 1)
        self.assertEqual(world.states, (
            (0, (0, 1), False, (
                (((1,), (0,)), (0, 0), 0),
                ((None, ()), (None, 0), 1),
                ((None, (0,)), (None, 0), 1),
                (((), None), (0, None), 2),
                (((1,), None), (0, None), 2))),
            (1, (1,), False, (((None, ()), (None, 0), 1),)),
            (2, (0,), False, ((((), None), (0, None), 2),))))
        self.assertEqual((world.nodes, world.start, world.blind), (2, 0, False))

    def test_two_nodes_that_both_stop(self):
        dead = ((None, None), (None, None), 3)
        self.assertEqual(stops_world(2, 2).states, (
            (0, (0, 1), False, (
                (((1,), (0,)), (0, 0), 0),
                ((None, ()), (None, 0), 1),
                ((None, (0,)), (None, 0), 1),
                (((), None), (0, None), 2),
                (((1,), None), (0, None), 2),
                dead)),
            (1, (1,), False, (((None, ()), (None, 0), 1), dead)),
            (2, (0,), False, ((((), None), (0, None), 2), dead)),
            (3, (), False, (dead,))))

    def test_one_node(self):
        self.assertEqual(stops_world(1, 0).states, ((0, (0,), False, ((((),), (0,), 0),)),))
        self.assertEqual(stops_world(1, 1).states, (
            (0, (0,), False, ((((),), (0,), 0), ((None,), (None,), 1))),
            (1, (), False, (((None,), (None,), 1),))))

    def test_nobody_stops(self):
        heard = ((1, 2, 3), (0, 2, 3), (0, 1, 3), (0, 1, 2))
        self.assertEqual(stops_world(4, 0).states, ((0, (0, 1, 2, 3), False, ((heard, (0, 0, 0, 0), 0),)),))

    def test_all_numbers_of_nodes(self):
        for nodes in (1, 2, 3, 4):
            for most in range(nodes + 1):
                world = stops_world(nodes, most)
                self.assertEqual(world.states, reference.stops_states(nodes, most))
                self.assertEqual((world.nodes, world.start, world.blind), (nodes, 0, False))
                self.assertTrue(is_plain(world.states))

    def test_states_stand_by_ascending_marks(self):
        self.assertEqual([state[0] for state in stops_world(3, 2).states], [0, 1, 2, 3, 4, 5, 6])
        self.assertEqual([state[0] for state in stops_world(3, 1).states], [0, 1, 2, 4])
        self.assertEqual([state[0] for state in stops_world(4, 2).states], [0, 1, 2, 3, 4, 5, 6, 8, 9, 10, 12])

    def test_the_numbers_of_moves(self):
        self.assertEqual([len(state[3]) for state in stops_world(3, 1).states], [13, 1, 1, 1])
        self.assertEqual(len(stops_world(4, 4).states[0][3]), 162)


class Losses(unittest.TestCase):

    def test_two_nodes_and_one_loss(self):
        world = losses_world(2, 1)
        self.assertEqual(world.states, ((0, (0, 1), False, (
            (((), (0,)), (0, 0), 0),
            (((1,), ()), (0, 0), 0),
            (((1,), (0,)), (0, 0), 0))),))
        self.assertEqual((world.nodes, world.start, world.blind), (2, 0, False))

    def test_the_edges_of_most(self):
        self.assertEqual(losses_world(1, 0).states, ((0, (0,), False, ((((),), (0,), 0),)),))
        self.assertEqual(losses_world(1, 12), losses_world(1, 0))
        self.assertEqual(len(losses_world(2, 12).states[0][3]), 4)
        self.assertEqual(len(losses_world(3, 12).states[0][3]), 64)
        self.assertEqual(len(losses_world(3, 6).states[0][3]), 64)
        self.assertEqual(len(losses_world(3, 5).states[0][3]), 63)

    def test_all_that_are_not_too_many(self):
        for nodes in (1, 2, 3, 4):
            for most in range(13):
                if nodes < 4 or most < 6:
                    world = losses_world(nodes, most)
                    self.assertEqual(world.states, reference.losses_states(nodes, most))
                    self.assertEqual((world.nodes, world.start, world.blind), (nodes, 0, False))
                    self.assertTrue(is_plain(world.states))

    def test_too_many_moves(self):
        self.assertEqual(len(losses_world(4, 5).states[0][3]), 1586)
        for most in (6, 7, 11, 12):
            self.assertEqual(error_of(losses_world, 4, most), ("TooMany", "moves"))


class Hears(unittest.TestCase):

    def test_two_nodes(self):
        world = hears_world(2, 0)
        self.assertEqual(world.states, ((0, (0, 1), False, (
            (((), ()), (0, 0), 0),
            (((), (0,)), (0, 0), 0),
            (((1,), ()), (0, 0), 0),
            (((1,), (0,)), (0, 0), 0))),))
        self.assertEqual((world.nodes, world.start, world.blind), (2, 0, False))
        self.assertEqual(hears_world(2, 1).states[0][3], ((((1,), (0,)), (0, 0), 0),))

    def test_three_nodes_that_hear_one_at_least(self):
        rows = (((1,), (1, 2), (2,)), ((0,), (0, 2), (2,)), ((0,), (0, 1), (1,)))
        moves = tuple(((a, b, c), (0, 0, 0), 0) for a in rows[0] for b in rows[1] for c in rows[2])
        self.assertEqual(hears_world(3, 1).states, ((0, (0, 1, 2), False, moves),))

    def test_all_that_are_not_too_many(self):
        for nodes in (1, 2, 3, 4):
            for least in range(nodes):
                if nodes < 4 or least >= 2:
                    world = hears_world(nodes, least)
                    self.assertEqual(world.states, reference.hears_states(nodes, least))
                    self.assertEqual((world.nodes, world.start, world.blind), (nodes, 0, False))
                    self.assertTrue(is_plain(world.states))

    def test_the_numbers_of_moves(self):
        self.assertEqual(len(hears_world(3, 0).states[0][3]), 64)
        self.assertEqual(len(hears_world(4, 2).states[0][3]), 256)
        self.assertEqual(len(hears_world(4, 3).states[0][3]), 1)

    def test_too_many_moves(self):
        for least in (0, 1):
            self.assertEqual(error_of(hears_world, 4, least), ("TooMany", "moves"))
            self.assertEqual(error_of(hears_world, 4, least, blind=True), ("TooMany", "moves"))


class Both(unittest.TestCase):

    def test_blind_worlds(self):
        for make in FAMILIES:
            for number in (0, 1, 2):
                world = make(3, number, blind=True)
                self.assertIs(world.blind, True)
                self.assertIs(make(3, number, blind=False).blind, False)
                self.assertIs(make(3, number).blind, False)
                self.assertEqual(world.states, make(3, number).states)
                self.assertEqual(world, World(3, world.states, 0, blind=True))

    def test_nodes_that_are_none(self):
        for make in FAMILIES:
            for nodes in (0, 5, -1) + JUNK:
                self.assertEqual(error_of(make, nodes, 0), ("BadValue", 1), make.__name__)
                self.assertEqual(error_of(make, nodes, None), ("BadValue", 1), make.__name__)

    def test_the_second_argument(self):
        for make in FAMILIES:
            for nodes in (1, 2, 3, 4):
                for number in (-1,) + JUNK:
                    self.assertEqual(error_of(make, nodes, number), ("BadValue", 2), make.__name__)
        for nodes in (1, 2, 3, 4):
            self.assertEqual(error_of(stops_world, nodes, nodes + 1), ("BadValue", 2))
            self.assertIsNone(error_of(stops_world, nodes, nodes))
            self.assertEqual(error_of(losses_world, nodes, 13), ("BadValue", 2))
            self.assertEqual(error_of(hears_world, nodes, nodes), ("BadValue", 2))
            self.assertIsNone(error_of(hears_world, nodes, nodes - 1))


if __name__ == "__main__":
    unittest.main()
