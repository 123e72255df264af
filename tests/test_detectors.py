"""Points 47 to 50: detectors."""

import random
import unittest

from alikeruns.demands import Demand, keeps
from alikeruns.detectors import cautious, complete, late, leaders, perfect, trusting
from alikeruns.making import make
from alikeruns.runs import runs, states_of
from alikeruns.worlds import losses_world, stops_world
from tests import demanding, hinting
from tests.reference import bits
from tests.values import JUNK, NOT_INTEGERS, error_of, is_plain

SETS = ((perfect, hinting.perfect_states), (cautious, hinting.cautious_states), (complete, hinting.complete_states),
        (trusting, hinting.trusting_states))


class Given(unittest.TestCase):

    def test_by_hand(self):
        self.assertEqual(perfect(2).states, (((0, ((0,), (0,)), 0), (1, (None, (1,)), 0), (2, ((2,), None), 0),
                                              (3, (None, None), 0)),))
        self.assertEqual(cautious(2).states, (((0, ((0,), (0,)), 0), (1, (None, (0, 1)), 0), (2, ((0, 2), None), 0),
                                               (3, (None, None), 0)),))
        every = (0, 1, 2, 3)
        self.assertEqual(complete(2).states, (((0, (every, every), 0), (1, (None, (1, 3)), 0), (2, ((2, 3), None), 0),
                                               (3, (None, None), 0)),))
        self.assertEqual(trusting(2).states, (((0, ((0, 2), (0, 2)), 0), (2, ((2,), None), 0)),
                                              ((0, ((0, 1), (0, 1)), 1), (1, (None, (1,)), 1))))
        self.assertEqual(leaders(2, 1).states, (
            ((0, ((0,), (0,)), 0), (0, ((1,), (1,)), 0), (0, ((0, 1), (0, 1)), 1), (1, (None, (1,)), 0),
             (1, (None, (0, 1)), 1), (2, ((0,), None), 0), (2, ((0, 1), None), 1), (3, (None, None), 0)),
            ((0, ((0,), (0,)), 1), (0, ((1,), (1,)), 1), (1, (None, (1,)), 1), (2, ((0,), None), 1),
             (3, (None, None), 1))))
        self.assertEqual(leaders(1, 1).states, (((0, ((0,),), 0), (0, ((0,),), 1), (1, (None,), 0)),
                                                ((0, ((0,),), 1), (1, (None,), 1))))

    def test_sets_of_nodes_for_1_to_4_nodes(self):
        for nodes in (1, 2, 3, 4):
            for call, states in SETS:
                demand = call(nodes)
                self.assertEqual((demand.nodes, demand.outs), (nodes, 2 ** nodes))
                self.assertEqual(demand.states, states(nodes))
                starts = tuple(range(nodes)) if call is trusting else (0,)
                self.assertEqual(demand.starts, (starts,) * 2 ** nodes)
                self.assertTrue(is_plain(demand.states))
                self.assertIsInstance(demand, Demand)

    def test_leaders_for_1_to_4_nodes_and_waits_0_to_5(self):
        for nodes in (1, 2, 3, 4):
            for wait in range(6):
                demand = leaders(nodes, wait)
                self.assertEqual((demand.nodes, demand.outs, len(demand.states)), (nodes, nodes, wait + 1))
                self.assertEqual(demand.starts, ((0,),) * 2 ** nodes)
                for c, rows in enumerate(demand.states):
                    self.assertEqual([row[0] for row in rows], sorted(row[0] for row in rows))
                    for mark in range(2 ** nodes):
                        mine = [row[1:] for row in rows if row[0] == mark]
                        live = sorted(set(range(nodes)) - bits(mark))
                        told = [(self.boxes(nodes, live, (j,)), c) for j in live]
                        if live and c < wait:
                            told.append((self.boxes(nodes, live, tuple(range(nodes))), c + 1))
                        self.assertEqual(mine, told or [((None,) * nodes, c)])

    def boxes(self, nodes, live, box):
        return tuple(box if node in live else None for node in range(nodes))

    def test_what_they_say_of_runs(self):
        world = stops_world(2, 1)
        for run in runs(world, 2)[::3]:
            marks = [world.states[number][0] for number in states_of(world, run)[1:]]
            for told in ((0, 0), (1, 1), (2, 2), (3, 3), (0, 2), (1, 0), (0, 1)):
                outputs = [[None if node in bits(mark) else told[time] for node in (0, 1)]
                           for time, mark in enumerate(marks)]
                stopped = [bits(mark) for mark in marks]
                suspected = [bits(number) for number in told]
                self.assertEqual(keeps(world, run, perfect(2), outputs), suspected == stopped)
                self.assertEqual(keeps(world, run, cautious(2), outputs),
                                 all(a <= b for a, b in zip(suspected, stopped)))
                full = all(a >= b for a, b in zip(suspected, stopped))
                self.assertEqual(keeps(world, run, complete(2), outputs), full)
                never = set(range(2)) - stopped[0] - stopped[1] - suspected[0] - suspected[1]
                self.assertEqual(keeps(world, run, trusting(2), outputs), full and len(never) > 0)

    def test_leaders_of_runs(self):
        world = losses_world(2, 0)
        for wait in range(4):
            for told in (((0, 0),) * 3, ((0, 0), (1, 1), (0, 0)), ((0, 1), (1, 1), (1, 1)), ((0, 1), (1, 1), (1, 0)),
                         ((0, 1), (1, 0), (0, 1))):
                wrong = sum(one != other for one, other in told)
                self.assertIs(keeps(world, ((0, 0), (0, 0, 0)), leaders(2, wait), told), wrong <= wait)

    def test_wrong_arguments(self):
        for wrong in (0, 5, -1, 10 ** 30) + NOT_INTEGERS:
            for call, _ in SETS:
                self.assertEqual(error_of(call, wrong), ("BadValue", 1), repr(wrong)[:80])
            self.assertEqual(error_of(leaders, wrong, wrong), ("BadValue", 1))
            self.assertEqual(error_of(leaders, wrong, 0), ("BadValue", 1))
        for wrong in (-1, 6, 10 ** 30) + NOT_INTEGERS:
            self.assertEqual(error_of(leaders, 2, wrong), ("BadValue", 2), repr(wrong)[:80])


class Late(unittest.TestCase):

    def check(self, detector, wait):
        found = late(detector, wait)
        self.assertEqual((found.nodes, found.outs), (detector.nodes, detector.outs))
        self.assertEqual(found.states, hinting.late_states(detector, wait))
        self.assertEqual(found.starts, ((0,),) * 2 ** detector.nodes)
        self.assertTrue(is_plain(found.states))

    def test_by_hand(self):
        detector = Demand(2, 3, [[(5, ((1,), None), 1)], [(5, ((0,), (2,)), 0), (2, ((1,), (1,)), 1)]], [0, 1])
        every = (0, 1, 2)
        self.assertEqual(late(detector, 1).states, (
            ((2, (every, every), 1), (2, (every, every), 2), (5, (every, None), 1), (5, (every, None), 2),
             (5, (every, every), 1), (5, (every, every), 2)),
            ((5, ((1,), None), 2),), ((5, ((0,), (2,)), 1), (2, ((1,), (1,)), 2))))
        self.assertEqual(late(detector, 2).states[0], (
            (2, (every, every), 1), (5, (every, None), 1), (5, (every, every), 1)))
        self.assertEqual(late(detector, 1).starts, ((0,),) * 4)

    def test_given_detectors(self):
        for nodes in (1, 2, 3, 4):
            for detector in (perfect(nodes), cautious(nodes), complete(nodes), trusting(nodes), leaders(nodes, 0),
                             leaders(nodes, 3)):
                self.assertEqual(late(detector, 0), detector)
                for wait in range(1, 6):
                    self.check(detector, wait)

    def test_detectors_by_chance(self):
        for seed in range(60):
            source = random.Random(seed)
            world = stops_world(source.choice((1, 2, 3)), 1)
            detector = demanding.random_demand(source, world, most_states=4, plain_starts=True)
            for wait in (1, 2, 5):
                self.check(detector, wait)
            self.assertEqual(late(detector, 0), detector)
        self.check(Demand(2, 2, [[], []], [0, 1]), 2)
        self.check(late(perfect(2), 2), 3)

    def test_it_may_output_anything_in_the_first_rounds(self):
        world = stops_world(2, 1)
        source = random.Random(9)
        for wait in range(4):
            detector = late(perfect(2), wait)
            for run in runs(world, 3)[::5]:
                marks = [world.states[number][0] for number in states_of(world, run)[1:]]
                outputs = [[None if node in bits(mark) else source.choice((mark, mark, source.randrange(4)))
                            for node in (0, 1)] for mark in marks]
                right = all(output in (None, mark) for row, mark in list(zip(outputs, marks))[wait:] for output in row)
                self.assertIs(keeps(world, run, detector, outputs), right)
        self.assertEqual(make(stops_world(2, 1, blind=True), 2, late(perfect(2), 1))[0], "refutation")

    def test_400_and_401_states(self):
        for wait in range(1, 6):
            most = Demand(1, 1, [[]] * (400 - wait), [0])
            self.assertEqual(len(late(most, wait).states), 400)
            self.assertEqual(error_of(late, Demand(1, 1, [[]] * (401 - wait), [0]), wait), ("TooMany", "states"))
        whole = Demand(1, 1, [[]] * 400, [0])
        self.assertEqual(late(whole, 0), whole)

    def test_2000_and_2001_rows(self):
        rows = [(mark, ((0,),), 0) for mark in range(2000)]
        just = Demand(1, 1, [rows, []], [0])
        for wait in (1, 2, 5):
            self.check(just, wait)
        more = Demand(1, 1, [rows, [(2000, (None,), 0)]], [0])
        for wait in (1, 2, 5):
            self.assertEqual(error_of(late, more, wait), ("TooMany", "rows"))
        self.assertEqual(late(more, 0), more)
        # In the last round of waiting there is a row for each start.
        self.check(Demand(1, 1, [rows[:1000], []], [0, 1]), 3)
        self.assertEqual(error_of(late, Demand(1, 1, [rows[:1001], []], [0, 1]), 3), ("TooMany", "rows"))
        both = Demand(1, 1, [rows, [(2000, (None,), 0)]] + [[]] * 398, [0])
        self.assertEqual(error_of(late, both, 1), ("TooMany", "states"))
        # A mark with None for other nodes is another pair.
        pairs = Demand(2, 1, [rows_of(1000)], [0])
        self.check(pairs, 1)
        more = Demand(2, 1, [rows_of(1000), [(7, (None, None), 0)]], [0])
        self.assertEqual(error_of(late, more, 1), ("TooMany", "rows"))

    def test_wrong_arguments(self):
        mixed = Demand(2, 2, [[], []], [[0], [1], [0], [0]])
        for wrong in JUNK + (mixed, losses_world(2, 0), 5):
            for wait in (0, 1, 6, None):
                self.assertEqual(error_of(late, wrong, wait), ("BadValue", 1), repr(wrong)[:80])
        for wrong in (-1, 6, 10 ** 30) + NOT_INTEGERS:
            self.assertEqual(error_of(late, perfect(2), wrong), ("BadValue", 2), repr(wrong)[:80])
            self.assertEqual(error_of(late, Demand(1, 1, [[]] * 400, [0]), wrong), ("BadValue", 2))

    def test_what_was_given_is_not_changed(self):
        detector = trusting(2)
        late(detector, 2)
        self.assertEqual(detector, trusting(2))


def rows_of(many):
    """Rows of two pairs for each of some marks."""
    return [(mark, boxes, 0) for mark in range(many) for boxes in (((0,), (0,)), ((0,), None))]


if __name__ == "__main__":
    unittest.main()
