"""Points 8 to 10 and 51 to 54: worlds with hints, and what can be made of detectors."""

import copy
import random
import unittest
from itertools import product

from alikeruns.agreement import agree
from alikeruns.demands import Demand
from alikeruns.detectors import cautious, complete, late, leaders, perfect, trusting
from alikeruns.hints import changed, composed, makes, order, with_hints
from alikeruns.making import broken_run, make
from alikeruns.runs import count_runs, runs, states_of
from alikeruns.sights import sight
from alikeruns.worlds import World, hears_world, losses_world, stops_due, stops_world, with_due
from tests import demanding, hinting, reference
from tests.demanding import anything
from tests.reference import listed, plain
from tests.test_making import sights_of
from tests.values import (CROWDED, JUNK, NOT_INTEGERS, NOT_SEQUENCES, blurred_world, chain_world, error_of, fan_world,
                          is_plain, random_world, silent_world)

BLIND = stops_world(2, 1, blind=True)
MIXED = Demand(2, 2, [[(0, ((0,), (0,)), 0)], [(0, ((1,), (1,)), 1)]], [[0], [1], [1], [1]])
NO_DEMANDS = JUNK + (losses_world(2, 0), 0, 5)
GIVEN = (perfect(2), cautious(2), complete(2), trusting(2), leaders(2, 0), leaders(2, 1), late(perfect(2), 1))
ALL_MARKS = (0, 1, 2, 3)


def fits_nothing(nodes):
    return Demand(nodes, 1, [[(77, ((0,),) * nodes, 0)]], [0])


def random_detector(source, world):
    """A detector of one to three demand states, with a row at least for each state of the world."""
    return demanding.dense_demand(source, world, most_states=source.choice((1, 1, 2, 3)), most_share=0.2)


class WithHints(unittest.TestCase):

    def check(self, world, detector):
        """Whether the world with hints is as told, or the error; True if there is a world."""
        told = hinting.hinted(world, detector)
        if told and isinstance(told[0], str):
            self.assertEqual(error_of(with_hints, world, detector), told)
            return False
        found = with_hints(world, detector)
        self.assertEqual((found.nodes, found.start, found.blind), (world.nodes, 0, world.blind))
        self.assertEqual(found.states, told)
        self.assertTrue(is_plain(found.states))
        self.assertIsInstance(found, World)
        return True

    def test_by_hand(self):
        world = World(2, [(4, (0, 1), True, [((None, (0,)), (None, 9), 1), ((None, (0,)), (None, 8), 1)]),
                          (6, (1,), False, [((None, ()), (None, 5), 1)])], 0, blind=True)
        detector = Demand(2, 3, [[(6, (None, (0, 2)), 1)], [(6, (None, (1,)), 1)]], [0])
        heard, later = (None, (0,)), (None, ())
        self.assertEqual(with_hints(world, detector).states, (
            (4, (0, 1), True, ((heard, (None, 0), 1), (heard, (None, 2), 1))),
            (6, (1,), False, ((later, (None, 1), 1),))))
        heard, other = ((), (0,)), ((1,), ())
        moves = [(heard, (9, 9), 0), (heard, (8, 8), 0), (other, (9, 9), 0)]
        world = World(2, [(4, (0, 1), True, moves)], 0, blind=True)
        detector = Demand(2, 3, [[(4, ((0, 2), (1,)), 1), (4, ((2,), (1,)), 1)], [(4, ((0,), (0,)), 0)]], [0])
        self.assertEqual(with_hints(world, detector).states, (
            (4, (0, 1), True, ((heard, (0, 1), 2), (heard, (2, 1), 2), (other, (0, 1), 2), (other, (2, 1), 2))),
            (4, (0, 1), True, ((heard, (0, 1), 2), (heard, (2, 1), 2), (other, (0, 1), 2), (other, (2, 1), 2))),
            (4, (0, 1), True, ((heard, (0, 0), 1), (other, (0, 0), 1)))))

    def test_stopped_nodes_by_hand(self):
        found = with_hints(BLIND, perfect(2))
        both = [(((1,), (0,)), (0, 0), 1), ((None, ()), (None, 1), 2), ((None, (0,)), (None, 1), 2),
                (((), None), (2, None), 3), (((1,), None), (2, None), 3)]
        self.assertEqual(found.states, ((0, (0, 1), False, tuple(both)), (0, (0, 1), False, tuple(both)),
                                        (1, (1,), False, (both[1],)), (2, (0,), False, (both[3],))))
        self.assertIs(found.blind, True)
        self.assertIs(with_hints(stops_world(2, 1), perfect(2)).blind, False)

    def test_given_detectors(self):
        many = 0
        for nodes in (1, 2, 3):
            for most in range(nodes + 1):
                for world in (stops_world(nodes, most), with_due(stops_world(nodes, most), stops_due(nodes, most))):
                    for call in (perfect, cautious, complete, trusting):
                        many += self.check(world, call(nodes))
                    for wait in (0, 1, 3):
                        many += self.check(world, leaders(nodes, wait))
                        many += self.check(world, late(perfect(nodes), wait))
        self.assertGreater(many, 100)
        self.assertTrue(self.check(stops_world(4, 1), perfect(4)))
        self.assertTrue(self.check(losses_world(3, 1), leaders(3, 1)))

    def test_worlds_and_detectors_by_chance(self):
        many = [0, 0]
        for seed in range(300):
            source = random.Random(seed)
            world = random_world(seed) if seed % 3 else blurred_world(seed)
            if seed % 2:
                detector = demanding.random_demand(source, world, most_states=4, most_rows=12, plain_starts=True)
            else:
                detector = random_detector(source, world)
            many[self.check(world, detector)] += 1
        self.assertGreater(min(many), 40)

    def test_all_starts_of_the_start_together(self):
        # From the first start there is no move, but from the second one.
        detector = Demand(1, 2, [[], [(0, ((1,),), 1)]], [0, 1])
        self.assertTrue(self.check(losses_world(1, 0), detector))
        self.assertEqual(len(with_hints(losses_world(1, 0), detector)), 2)
        self.assertFalse(self.check(losses_world(1, 0), Demand(1, 2, [[(0, ((1,),), 1)], []], [0])))
        self.assertFalse(self.check(losses_world(1, 0), Demand(1, 2, [[], [(0, ((1,),), 1)]], [0])))
        equal = Demand(1, 2, [[(0, ((1,),), 2)], [(0, ((0, 1),), 2)], [(0, ((1,),), 2)]], [0, 1])
        self.assertTrue(self.check(losses_world(1, 0), equal))
        self.assertEqual(len(with_hints(losses_world(1, 0), equal).states[0][3]), 2)

    def test_a_start_that_is_not_the_first_state(self):
        states = [(3, (0,), False, [(((),), (7,), 1)]), (2, (0,), True, [(((),), (7,), 0), (((),), (1,), 1)])]
        for start in (0, 1):
            self.assertTrue(self.check(World(1, states, start), anything(1, 2, marks=(2, 3))))

    def test_400_and_401_states(self):
        for many in (399, 400):
            # From the start all demand states can be reached.
            rows = [(0, ((0,),), to) for to in range(many)]
            detector = Demand(1, 1, [rows] + [[(0, ((0,),), at)] for at in range(1, many)], [0])
            self.assertEqual(self.check(losses_world(1, 0), detector), many == 399)
        self.assertEqual(error_of(with_hints, losses_world(1, 0), detector), ("TooMany", "states"))
        # It stands ahead of BadValue for a pair without a move.
        stuck = Demand(1, 1, [rows] + [[]] * 399, [0])
        self.assertEqual(error_of(with_hints, losses_world(1, 0), stuck), ("TooMany", "states"))
        self.assertEqual(error_of(with_hints, losses_world(1, 0), Demand(1, 1, [rows[:399]] + [[]] * 399, [0])),
                         ("BadValue", 2))

    def test_2000_and_2001_moves(self):
        one = losses_world(1, 0)
        # One demand state with 125 rows of 16 outputs to others, and one more.
        for more in (0, 1):
            rows = [(0, (tuple(range(16)),), to) for to in range(125)] + [(0, ((3,),), 125)] * more
            detector = Demand(1, 16, [rows] + [[(0, ((0,),), at)] for at in range(1, 126)], [0])
            self.assertEqual(self.check(one, detector), more == 0)
        self.assertEqual(error_of(with_hints, one, detector), ("TooMany", "moves"))
        # It stands behind BadValue.
        stuck = Demand(1, 16, [rows] + [[]] * 125, [0])
        self.assertEqual(error_of(with_hints, one, stuck), ("BadValue", 2))
        # Hints of the world itself do not count.
        self.assertEqual(len(with_hints(chain_world([2000]), anything(1, 1)).states[0][3]), 1)
        self.assertTrue(self.check(chain_world([2000]), anything(1, 16)))
        # Four nodes with many outputs each.
        for outs, told in ((6, None), (7, ("TooMany", "moves")), (16, ("TooMany", "moves"))):
            self.assertEqual(error_of(with_hints, silent_world(4), anything(4, outs)), told)
        # What fits no state does not count.
        self.assertIsNone(error_of(with_hints, one, anything(1, 16, marks=range(2000))))

    def test_many_rows_of_one_kind(self):
        rows = [(0, (tuple(sorted({at % 16, at * at % 16, at // 16 % 16})),), 0) for at in range(700)]
        detector = Demand(1, 16, [list(dict.fromkeys(rows))], [0])
        self.assertTrue(self.check(losses_world(1, 0), detector))

    def test_wrong_detectors(self):
        for wrong in NO_DEMANDS + (MIXED, perfect(1), perfect(3), fits_nothing(2), Demand(2, 1, [[]], [0])):
            self.assertEqual(error_of(with_hints, BLIND, wrong), ("BadValue", 2), repr(wrong)[:80])

    def test_what_was_given_is_not_changed(self):
        world, detector = stops_world(2, 1), leaders(2, 2)
        with_hints(world, detector)
        self.assertEqual((world, detector), (stops_world(2, 1), leaders(2, 2)))


class Makes(unittest.TestCase):

    def test_a_detector_makes_itself(self):
        for rounds in (0, 1):
            for detector in GIVEN:
                if error_of(makes, BLIND, rounds, detector, detector) is None:
                    self.assertIs(makes(BLIND, rounds, detector, detector), True)
        self.assertIs(makes(BLIND, 2, perfect(2), perfect(2)), True)

    def test_two_different_ones(self):
        for one, other, told in ((perfect(2), cautious(2), True), (cautious(2), perfect(2), False),
                                 (perfect(2), complete(2), True), (complete(2), perfect(2), False),
                                 (perfect(2), leaders(2, 0), True), (cautious(2), complete(2), True),
                                 (complete(2), leaders(2, 0), False), (leaders(2, 0), complete(2), True)):
            self.assertIs(makes(BLIND, 1, one, other), told)
        self.assertIs(makes(silent_world(2, blind=True), 1, leaders(2, 0), Demand(2, 1, [[(0, ((0,), (0,)), 0)]], [0])),
                      True)

    def test_makes_and_make_of_the_world_with_hints(self):
        answers = []
        for seed in range(250):
            source = random.Random(seed)
            world = blurred_world(seed) if seed % 2 else random_world(seed, most_nodes=2)
            one, other = random_detector(source, world), random_detector(source, world)
            rounds = source.choice((1, 1, 2))
            error = error_of(with_hints, world, one)
            if error is None and count_runs(with_hints(world, one), rounds) <= 300:
                hinted = with_hints(world, one)
                error = error_of(make, hinted, rounds, other)
                if error is None:
                    word, _ = make(hinted, rounds, other)
                    self.assertIs(makes(world, rounds, one, other), word == "table")
                    answers.append(word)
                else:
                    self.assertEqual(error_of(makes, world, rounds, one, other), error)
        self.assertGreater(min(answers.count("table"), answers.count("refutation")), 25)

    def test_0_and_5_rounds(self):
        for one, other in product(GIVEN, GIVEN):
            self.assertIs(makes(BLIND, 0, one, other), True)
        self.assertIs(makes(silent_world(1, blind=True), 5, anything(1, 1), anything(1, 2)), True)
        twice = Demand(1, 2, [[(0, ((0,),), min(at + 1, 4))] for at in range(4)] + [[]], [0])
        self.assertIs(makes(silent_world(1, blind=True), 4, anything(1, 1), twice), True)
        self.assertIs(makes(silent_world(1, blind=True), 5, anything(1, 1), twice), False)

    def test_wrong_arguments(self):
        for wrong in (-1, 6, 10 ** 30) + NOT_INTEGERS:
            self.assertEqual(error_of(makes, BLIND, wrong, None, None), ("BadValue", 2), repr(wrong)[:80])
            self.assertEqual(error_of(makes, CROWDED, wrong, perfect(2), perfect(2)), ("BadValue", 2))
        for wrong in NO_DEMANDS + (MIXED, perfect(1), perfect(3), fits_nothing(2)):
            self.assertEqual(error_of(makes, BLIND, 1, wrong, None), ("BadValue", 3), repr(wrong)[:80])
        for wrong in NO_DEMANDS + (MIXED, perfect(1), perfect(3)):
            self.assertEqual(error_of(makes, BLIND, 1, perfect(2), wrong), ("BadValue", 4), repr(wrong)[:80])
        # The other detector need not have a row for each state.
        self.assertIs(makes(BLIND, 1, perfect(2), fits_nothing(2)), False)

    def test_the_order_of_the_errors(self):
        one = losses_world(1, 0)
        rows = [(0, ((0,),), to) for to in range(400)]
        many_states = Demand(1, 1, [rows] + [[]] * 399, [0])
        many_moves = Demand(4, 16, [[(0, (tuple(range(16)),) * 4, 0)]], [0])
        self.assertEqual(error_of(makes, one, 6, many_states, None), ("BadValue", 2))
        self.assertEqual(error_of(makes, one, 1, many_states, None), ("TooMany", "states"))
        self.assertEqual(error_of(makes, silent_world(4), 1, many_moves, None), ("TooMany", "moves"))
        # TooMany("runs") stands behind all BadValue, and counts the runs of the world with hints alone.
        self.assertEqual(error_of(makes, CROWDED, 2, anything(4, 1), None), ("BadValue", 4))
        self.assertEqual(error_of(makes, CROWDED, 2, anything(4, 1), anything(4, 1)), ("TooMany", "runs"))
        self.assertEqual(error_of(makes, fan_world(15, 1), 2, anything(1, 1), None), ("BadValue", 3))
        marks = anything(1, 1, marks=range(3))
        self.assertEqual(error_of(makes, fan_world(15, 1), 2, marks, None), ("BadValue", 4))
        # Equal moves count once: of its hints the world has many more runs than the world with hints.
        self.assertEqual(error_of(runs, fan_world(15, 1), 2), ("TooMany", "runs"))
        self.assertIs(makes(fan_world(15, 1), 2, marks, marks), True)
        wide = anything(1, 16, marks=range(3))
        self.assertEqual(error_of(makes, fan_world(15, 1), 2, wide, marks), ("TooMany", "sights"))
        self.assertEqual(error_of(makes, losses_world(1, 0), 4, anything(1, 16), anything(1, 1)), ("TooMany", "runs"))
        self.assertEqual(error_of(makes, losses_world(1, 0), 3, anything(1, 16), anything(1, 1)), ("TooMany", "sights"))

    def test_60_and_61_sights(self):
        blind = silent_world(1, blind=True)
        for outs in (1, 15, 16):
            self.assertIs(makes(blind, 1, anything(1, outs), anything(1, 1)), True)
        # One of four nodes gets one of fifteen hints, or one of sixteen.
        def told(last):
            boxes = [(tuple(range(16 if at == last else 15)), at) for at in range(4)]
            return Demand(4, 16, [[(0, tuple(box if node == at else (0,) for node in range(4)), at)]
                                  for box, at in boxes], [0, 1, 2, 3])
        four = silent_world(4, blind=True)
        self.assertEqual(len(sights_of(with_hints(four, told(None)), 1)), 60)
        self.assertIs(makes(four, 1, told(None), anything(4, 1)), True)
        for last in range(4):
            self.assertEqual(len(sights_of(with_hints(four, told(last)), 1)), 61)
            self.assertEqual(error_of(makes, four, 1, told(last), anything(4, 1)), ("TooMany", "sights"))

    def test_30000_runs_of_the_world_with_hints_and_more(self):
        # One hint of some in the first round, then 16 hints on the way to each of 125 demand states.
        one = silent_world(1, blind=True)
        for outs, error in ((15, "sights"), (16, "runs")):
            last = [[(0, ((0,),), at)] for at in range(2, 127)]
            rows = [(0, (tuple(range(16)),), at) for at in range(2, 127)]
            detector = Demand(1, 16, [[(0, (tuple(range(outs)),), 1)], rows] + last, [0])
            self.assertEqual(count_runs(with_hints(one, detector), 2), outs * 2000)
            self.assertEqual(error_of(makes, one, 2, detector, detector), ("TooMany", error))
            self.assertEqual(error_of(order, one, 2, [detector]), ("TooMany", error))
            self.assertEqual(error_of(makes, one, 2, detector, MIXED), ("BadValue", 4))
            self.assertIs(makes(one, 1, detector, anything(1, 2)), True)

    def test_open_outputs_multiplied(self):
        blind = silent_world(1, blind=True)
        self.assertIs(makes(blind, 1, anything(1, 10), anything(1, 4)), True)
        self.assertEqual(error_of(makes, blind, 1, anything(1, 11), anything(1, 4)), ("TooMany", "sights"))


class Changed(unittest.TestCase):

    def test_by_hand(self):
        first, other = ((0, 1), 7, ((1, 0),)), ((1, 0), 8, ())
        table = [(first, 3), (other, -4), ((first, 9, (other,)), 0)]
        self.assertEqual(changed((0, 1), table), (0, 1))
        self.assertEqual(changed([3, 0], ()), (3, 0))
        self.assertEqual(changed(first, table), ((0, 1), 3, ((1, 0),)))
        self.assertEqual(changed((first, 9, (other,)), table), (((0, 1), 3, ((1, 0),)), 0, (((1, 0), -4, ()),)))
        self.assertEqual(changed(listed((first, 9, (other,))), listed(table)), changed((first, 9, (other,)), table))
        self.assertTrue(is_plain(changed(listed((first, 9, (other,))), listed(table))))
        more = [(None, 1), (True, 2), ((5, 5), 3), (((0, 1), True, ((1, 0),)), 9)]
        self.assertEqual(changed(first, table + more), ((0, 1), 3, ((1, 0),)))

    def test_sights_of_times_0_to_3(self):
        source = random.Random(30)
        for world, rounds in ((losses_world(2, 1), 2), (stops_world(3, 1), 1), (hears_world(2, 0), 2),
                              (silent_world(4), 3), (losses_world(4, 0), 3), (stops_world(2, 2), 3)):
            listed_runs = runs(world, rounds)
            for run in source.sample(listed_runs, min(20, len(listed_runs))):
                last = states_of(world, run)[-1]
                for node in world.states[last][1]:
                    for time in range(rounds + 1):
                        told = sight(world, run, node, time)
                        outputs = {text: source.randint(-3, 3) for text in self.inner(told)}
                        table = [(self.inner(told)[text], output) for text, output in outputs.items()]
                        source.shuffle(table)
                        found = changed(told, table)
                        self.assertEqual(found, hinting.changed_sight(told, outputs))
                        self.assertTrue(is_plain(found))
                        if table:
                            self.assertEqual(error_of(changed, told, table[1:]), ("BadValue", 2))

    def inner(self, told):
        """The sights of times from 1 on among a sight and those in it, by their texts."""
        if len(told) == 2:
            return {}
        found = {repr(told): told}
        for other in (told[0],) + told[2]:
            found.update(self.inner(other))
        return found

    def test_what_has_not_the_form_of_a_sight(self):
        first = ((0, 1), 0, ())
        wrongs = JUNK + (
            (0,), (4, 0), (-1, 0), (0, 2), (0, -1), (True, 0), (0, False), (None, 0), ("0", 0), ((0,), 0), (0, 0, 0),
            (0, 0, ()), ((0, 0), 0), ((0, 0), 0, (), ()), ((0, 0), None, ()), ((0, 0), True, ()), ((0, 0), "0", ()),
            ((0, 0), 0, None), ((0, 0), 0, 0), ((0, 0), 0, "ab"), ((0, 0), 0, ((0, 1),)), ((0, 0), 0, ((1, 2),)),
            ((0, 0), 0, ((2, 0), (1, 0))), ((0, 0), 0, ((1, 0), (1, 0))), ((0, 0), 0, ((1, 0), (1, 1))),
            ((0, 0), 0, (((1, 0), 0, ()),)), (first, 0, ((1, 0),)), (first, 0, (first,)), ((0, 0), 0, (1, 0)),
            ((0, 0), 0, (None,)), ((0, 0), 0, ((4, 0),)), ((0, 2), 0, ()), ((None, 0), 0, ()), ((first, 0), 0, ()),
            (first, 0, (((1, 0), 0, ()), (2, 0))), (first, 0, (((1, 0), 0, ((0, 0),)), ((1, 1), 0, ()))))
        for wrong in wrongs:
            self.assertIsNone(hinting.time_of(wrong))
            for table in ((), None):
                self.assertEqual(error_of(changed, wrong, table), ("BadValue", 1), repr(wrong)[:80])
        # Sights of no world at hand are ones as well.
        for right in ((3, 1), ((3, 1), 10 ** 30, ((0, 0), (1, 1), (2, 0))), (((3, 1), 5, ()), -7, (((0, 0), 5, ()),))):
            self.assertIsNotNone(hinting.time_of(right))
            table = [(inner, 0) for inner in self.inner(right).values()]
            self.assertEqual(changed(right, table), hinting.changed_sight(right, dict.fromkeys(self.inner(right), 0)))

    def test_deep_sights(self):
        told, table = (0, 0), []
        for time in range(38):
            told = (told, time, ())
            table.append((told, time + 1))
        found = changed(told, table)
        for time in range(38, 0, -1):
            self.assertEqual(found[1:], (time, ()))
            found = found[0]

    def test_wrong_tables(self):
        first = ((0, 1), 0, ((1, 1),))
        for wrong in tuple(x for x in JUNK if x not in ([], ())) + (
                [first], [(first,)], [(first, True)], [(first, None)], [(first, 0, 0)], [(first, 0), (first, 0)],
                [(first, 0), (listed(first), 1)], [(None, 0), (None, 0)]):
            self.assertEqual(error_of(changed, first, wrong), ("BadValue", 2), repr(wrong)[:80])
            self.assertEqual(error_of(changed, (0, 0), wrong), ("BadValue", 2), repr(wrong)[:80])
        for lacks in ((), [((0, 1), 0)], [(((0, 1), 0, ()), 0)], [(((0, 1), False, ((1, 1),)), 0)]):
            self.assertEqual(error_of(changed, first, lacks), ("BadValue", 2))
        deeper = (first, 0, ())
        self.assertEqual(error_of(changed, deeper, [(deeper, 0)]), ("BadValue", 2))
        self.assertEqual(error_of(changed, deeper, [(first, 0)]), ("BadValue", 2))

    def test_what_was_given_is_not_changed(self):
        first = [[0, 1], 0, [[1, 1]]]
        table = [[first, 5]]
        before = copy.deepcopy((first, table))
        changed(first, table)
        self.assertEqual((first, table), before)


class Composed(unittest.TestCase):

    def test_the_table_of_composed_keeps_the_demand_in_every_run(self):
        many = 0
        for seed in range(400):
            source = random.Random(seed)
            world = blurred_world(seed) if seed % 2 else random_world(seed, most_nodes=2)
            rounds = source.choice((1, 1, 2))
            detector = random_detector(source, world)
            if count_runs(world, rounds) > 60 or error_of(with_hints, world, detector) is not None:
                continue
            hinted = with_hints(world, detector)
            demand = random_detector(source, world)
            if error_of(make, world, rounds, detector) is None and error_of(make, hinted, rounds, demand) is None:
                word, first = make(world, rounds, detector)
                other, second = make(hinted, rounds, demand)
                if (word, other) == ("table", "table"):
                    third = composed(world, rounds, first, second)
                    self.assertTrue(is_plain(third))
                    self.assertIsNone(broken_run(world, rounds, demand, third))
                    self.assertTrue(demanding.works(world, rounds, demand, third))
                    self.check_outputs(world, rounds, first, second, third)
                    many += 1
        self.assertGreater(many, 60)

    def check_outputs(self, world, rounds, first, second, third):
        """Each output is the one of second for the sight as changed by first."""
        outputs = {repr(plain(told)): output for told, output in first}
        later = {repr(plain(told)): output for told, output in second}
        sights = sights_of(world, rounds)
        self.assertEqual(sorted(repr(told) for told, _ in third), sorted(sights))
        for told, output in third:
            new = hinting.changed_sight(told, outputs)
            self.assertEqual(output, later[repr(new)])
            self.assertEqual(changed(told, first), new)

    def test_tables_by_chance(self):
        source = random.Random(31)
        for world, rounds in ((losses_world(2, 1), 2), (stops_world(2, 2), 2), (stops_world(3, 1), 1),
                              (silent_world(3), 3), (losses_world(1, 0), 5), (losses_world(2, 2), 0)):
            sights = sights_of(world, rounds)
            first = [[told, source.randrange(3)] for told in sights.values()]
            outputs = {repr(told): output for told, output in first}
            news = {repr(new): new for new in (hinting.changed_sight(told, outputs) for told in sights.values())}
            second = [(new, source.randint(-9, 9)) for new in news.values()]
            source.shuffle(second)
            third = composed(world, rounds, first, second)
            self.check_outputs(world, rounds, first, second, third)
            extra = (((0, 0), 5), ("x", 1), (None, 2))
            self.assertEqual(composed(world, rounds, extra + tuple(reversed(first)), extra + tuple(second)), third)
            if sights:
                self.assertEqual(error_of(composed, world, rounds, first[1:], second), ("BadValue", 3))
                self.assertEqual(error_of(composed, world, rounds, first, second[1:]), ("BadValue", 4))
                self.assertEqual(error_of(composed, world, rounds, first + first[:1], None), ("BadValue", 3))
                self.assertEqual(error_of(composed, world, rounds, first, second + second[-1:]), ("BadValue", 4))

    def test_it_need_not_be_a_table_of_a_demand(self):
        self.assertEqual(composed(losses_world(1, 0, blind=True), 1, [(((0, 0), 0, ()), -7)],
                                  [(((0, 0), -7, ()), 10 ** 9)]),
                         ((((0, 0), 0, ()), 10 ** 9),))

    def test_wrong_arguments(self):
        world = losses_world(1, 0, blind=True)
        told = ((0, 0), 0, ())
        first, second = [(told, 1)], [(((0, 0), 1, ()), 2)]
        self.assertEqual(composed(world, 1, first, second), ((told, 2),))
        for wrong in (-1, 6, 10 ** 30) + NOT_INTEGERS:
            for any_world in (world, CROWDED):
                self.assertEqual(error_of(composed, any_world, wrong, None, None), ("BadValue", 2))
        self.assertEqual(error_of(composed, CROWDED, 2, None, None), ("TooMany", "runs"))
        self.assertEqual(error_of(composed, fan_world(15, 1), 2, None, None), ("TooMany", "runs"))
        self.assertEqual(error_of(composed, fan_world(15, 0), 2, None, None), ("BadValue", 3))
        for wrong in JUNK + ([(told, True)], [(told, None)], [(told,)], [told], [(told, 1), (listed(told), 2)],
                             [(((0, 0), 1, ()), 1)], [(((0, 0), False, ()), 1)], [((0, 0), 1)]):
            self.assertEqual(error_of(composed, world, 1, wrong, None), ("BadValue", 3), repr(wrong)[:80])
            if wrong not in ([(((0, 0), 1, ()), 1)],):
                self.assertEqual(error_of(composed, world, 1, first, wrong), ("BadValue", 4), repr(wrong)[:80])
        self.assertEqual(error_of(composed, world, 1, first, first), ("BadValue", 4))
        for wrong in NOT_SEQUENCES:
            self.assertEqual(error_of(composed, world, 0, wrong, ()), ("BadValue", 3))
            self.assertEqual(error_of(composed, world, 0, (), wrong), ("BadValue", 4))
        self.assertEqual(composed(world, 0, (), []), ())

    def test_what_was_given_is_not_changed(self):
        first, second = [[[[0, 0], 0, []], 1]], [[[[0, 0], 1, []], 2]]
        before = copy.deepcopy((first, second))
        composed(losses_world(1, 0, blind=True), 1, first, second)
        self.assertEqual((first, second), before)

    def test_agreement_with_the_hints_of_one_where_one_makes_the_other(self):
        # What can be agreed on with the hints of the other can be agreed on with the hints of the one.
        many = 0
        for world in (stops_world(2, 1), stops_world(2, 2), losses_world(2, 1)):
            detectors = GIVEN if world != losses_world(2, 1) else (leaders(2, 0), anything(2, 2), leaders(2, 1))
            for one, other in product(detectors, detectors):
                if error_of(makes, world, 1, one, other) is None and makes(world, 1, one, other):
                    words = []
                    for detector in (one, other):
                        hinted = with_hints(world, detector)
                        last = [sight(hinted, run, node, 1) for run in runs(hinted, 1)
                                for node in hinted.states[states_of(hinted, run)[-1]][1]]
                        words.append(agree(hinted, 1, sights=last)[0])
                    self.assertFalse(words == ["chain", "program"])
                    many += 1
        self.assertGreater(many, 8)


class Order(unittest.TestCase):

    def check(self, world, rounds, detectors):
        found = order(world, rounds, detectors)
        self.assertEqual(found, tuple(tuple(makes(world, rounds, one, other) for other in detectors)
                                      for one in detectors))
        self.assertTrue(is_plain(found))
        for at in range(len(detectors)):
            self.assertIs(found[at][at], True)
            for middle, last in product(range(len(detectors)), repeat=2):
                self.assertFalse(found[at][middle] and found[middle][last] and not found[at][last])
        return found

    def test_no_one_two_and_six_detectors(self):
        self.assertEqual(self.check(BLIND, 1, []), ())
        self.assertEqual(self.check(BLIND, 1, ()), ())
        self.assertEqual(self.check(BLIND, 1, [cautious(2)]), ((True,),))
        self.assertEqual(self.check(BLIND, 1, (perfect(2), complete(2))), ((True, True), (False, True)))
        self.assertEqual(self.check(BLIND, 1, [perfect(2), perfect(2)]), ((True, True), (True, True)))
        six = [perfect(2), cautious(2), complete(2), trusting(2), leaders(2, 0), perfect(2)]
        found = self.check(BLIND, 1, six)
        self.assertEqual(found[0], (True,) * 6)
        self.assertEqual(len(found), 6)

    def test_given_detectors_in_other_worlds(self):
        self.check(stops_world(2, 2, blind=True), 1, [perfect(2), cautious(2), leaders(2, 0)])
        self.check(stops_world(1, 1), 1, [perfect(1), cautious(1), complete(1)])
        self.check(stops_world(3, 1, blind=True), 1, [perfect(3), leaders(3, 0)])
        self.check(silent_world(2, blind=True), 2, [leaders(2, 0), anything(2, 2)])
        self.check(BLIND, 0, list(GIVEN[:6]))

    def test_detectors_by_chance(self):
        entries = []
        for seed in range(60):
            source = random.Random(seed)
            world = blurred_world(seed) if seed % 2 else random_world(seed, most_nodes=2)
            detectors = [random_detector(source, world) for _ in range(source.randint(1, 4))]
            if error_of(order, world, 1, detectors) is None:
                found = self.check(world, 1, detectors)
                entries += [told for row in found for told in row]
        self.assertGreater(min(entries.count(True), entries.count(False)), 40)

    def test_one_makes_the_other_exactly_if_it_helps_as_much(self):
        many = [0, 0]
        for seed in range(150):
            source = random.Random(seed)
            world = blurred_world(seed)
            one, other = random_detector(source, world), random_detector(source, world)
            if error_of(makes, world, 1, one, other) is None:
                told = makes(world, 1, one, other)
                words = []
                for _ in range(6):
                    demand = random_detector(source, world)
                    hinted = [with_hints(world, detector) for detector in (one, other)]
                    if all(error_of(make, place, 1, demand) is None for place in hinted):
                        words.append([make(place, 1, demand)[0] for place in hinted])
                if told:
                    self.assertNotIn(["refutation", "table"], words)
                elif error_of(make, with_hints(world, other), 1, other) is None:
                    # The other one itself can be kept with its own hints.
                    self.assertEqual(make(with_hints(world, other), 1, other)[0], "table")
                    self.assertEqual(make(with_hints(world, one), 1, other)[0], "refutation")
                many[told] += 1
        self.assertGreater(min(many), 15)

    def test_wrong_arguments(self):
        for wrong in (-1, 6, 10 ** 30) + NOT_INTEGERS:
            for world in (BLIND, CROWDED):
                self.assertEqual(error_of(order, world, wrong, None), ("BadValue", 2), repr(wrong)[:80])
        for wrong in NOT_SEQUENCES + ([perfect(2)] * 7, perfect(2), [MIXED], [perfect(2), perfect(3)],
                                      [fits_nothing(2)],
                                      [perfect(2), fits_nothing(2)]):
            self.assertEqual(error_of(order, BLIND, 1, wrong), ("BadValue", 3), repr(wrong)[:80])
        for wrong in NO_DEMANDS:
            self.assertEqual(error_of(order, BLIND, 1, [wrong]), ("BadValue", 3), repr(wrong)[:80])
            self.assertEqual(error_of(order, BLIND, 1, (perfect(2), wrong)), ("BadValue", 3))
        self.assertEqual(order(BLIND, 1, [perfect(2)] * 6), ((True,) * 6,) * 6)

    def test_all_detectors_are_looked_at_first(self):
        one = losses_world(1, 0)
        rows = [(0, ((0,),), to) for to in range(400)]
        many_states = Demand(1, 1, [rows] + [[]] * 399, [0])
        wide = [(0, (tuple(range(16)),), to) for to in range(126)]
        many_moves = Demand(1, 16, [wide] + [[(0, ((0,),), at)] for at in range(1, 126)], [0])
        many_runs, many_sights = anything(1, 16), anything(1, 8)
        good = anything(1, 1)
        for first, error in ((many_states, ("TooMany", "states")), (many_moves, ("TooMany", "moves"))):
            self.assertEqual(error_of(order, one, 1, [first]), error)
            self.assertEqual(error_of(order, one, 1, [first, fits_nothing(1)]), ("BadValue", 3))
            self.assertEqual(error_of(order, one, 1, [first, None]), ("BadValue", 3))
            self.assertEqual(error_of(order, one, 1, [first] + [good] * 6), ("BadValue", 3))
            self.assertEqual(error_of(order, one, 1, [good, first]), error)
        self.assertEqual(error_of(order, one, 1, [many_states, many_moves]), ("TooMany", "states"))
        self.assertEqual(error_of(order, one, 1, [many_moves, many_states]), ("TooMany", "moves"))
        self.assertEqual(error_of(order, one, 4, [many_runs, many_states]), ("TooMany", "runs"))
        self.assertEqual(error_of(order, one, 4, [many_runs, fits_nothing(1)]), ("BadValue", 3))
        self.assertEqual(error_of(order, one, 4, [good, many_runs]), ("TooMany", "sights"))
        self.assertEqual(error_of(order, one, 4, [many_runs, good]), ("TooMany", "runs"))
        self.assertEqual(error_of(order, one, 3, [many_sights, many_states]), ("TooMany", "sights"))
        self.assertEqual(error_of(order, one, 3, [many_states, many_sights]), ("TooMany", "states"))

    def test_runs_of_the_worlds_with_hints_alone_are_counted(self):
        marks = anything(1, 1, marks=range(3))
        self.assertEqual(order(fan_world(15, 1), 2, [marks]), ((True,),))
        self.assertEqual(error_of(order, CROWDED, 2, [anything(4, 1)]), ("TooMany", "runs"))
        self.assertEqual(error_of(order, CROWDED, 2, [None]), ("BadValue", 3))
        self.assertEqual(order(CROWDED, 5, []), ())
        self.assertEqual(order(chain_world([2000, 2000]), 5, []), ())

    def test_what_was_given_is_not_changed(self):
        detectors = [perfect(2), cautious(2)]
        order(BLIND, 1, detectors)
        self.assertEqual(detectors, [perfect(2), cautious(2)])


class Together(unittest.TestCase):

    def test_runs_of_the_world_with_hints_keep_the_detector(self):
        for seed in range(40):
            source = random.Random(seed)
            world = random_world(seed, most_nodes=2)
            detector = random_detector(source, world)
            if error_of(with_hints, world, detector) is None:
                hinted = with_hints(world, detector)
                for run in source.sample(reference.all_runs(hinted, 2), 1):
                    _, moves = reference.taken(hinted, run, 2)
                    outputs = [move[1] for move in moves]
                    self.assertTrue(demanding.kept(hinted, run, detector, outputs))

    def test_no_hint_helps_as_one_hint(self):
        # With hints that tell nothing, the world is as it is without them.
        for world in (BLIND, losses_world(2, 1, blind=True), silent_world(2)):
            marks = [state[0] for state in world.states]
            nothing = anything(2, 1, marks=marks, lives=[state[1] for state in world.states])
            for seed in range(20):
                demand = demanding.random_demand(random.Random(seed), world, plain_starts=True)
                if error_of(make, world, 1, demand) is None:
                    self.assertEqual(makes(world, 1, nothing, demand), make(world, 1, demand)[0] == "table")


if __name__ == "__main__":
    unittest.main()
