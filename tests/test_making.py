"""Points 6, 44 and 46: tables that keep a demand, and runs in which tables fail."""

import copy
import random
import unittest

from alikeruns.agreement import agree
from alikeruns.demands import Demand, keeps
from alikeruns.making import broken_run, make
from alikeruns.refuting import refutation_holds
from alikeruns.runs import runs, states_of
from alikeruns.sights import sight
from alikeruns.worlds import losses_world, stops_world
from tests import demanding, reference
from tests.demanding import agreement_demand, anything
from tests.reference import listed
from tests.values import (CROWDED, JUNK, NOT_INTEGERS, chain_world, error_of, fan_world, hints_world, is_plain,
                          making_cases, silent_world)

CASES = making_cases()
TWO = losses_world(2, 0, blind=True)
SAME = Demand(2, 2, [[(0, ((0,), (0,)), 0), (0, ((1,), (1,)), 0)]], [0])
NEVER = Demand(2, 2, [[(7, ((0,), (0,)), 0)]], [0])


def sights_of(world, rounds):
    """The sights of times from 1 on that occur within rounds, by their texts."""
    found = {}
    for run in runs(world, rounds):
        for (node, time), text in demanding.places_of(world, run).items():
            found[text] = reference.sight_of(world, run, node, time)
    return found


def some_cases(many, step=1):
    return [demanding.random_case(seed, CASES) for seed in range(0, many * step, step)]


class Make(unittest.TestCase):

    def check(self, world, rounds, demand):
        """What make returns holds; the word of it."""
        word, found = make(world, rounds, demand)
        self.assertTrue(is_plain(found))
        if word == "table":
            self.assertEqual(sorted(repr(told) for told, _ in found), sorted(sights_of(world, rounds)))
            self.assertIsNone(broken_run(world, rounds, demand, found))
            self.assertTrue(demanding.works(world, rounds, demand, found))
        else:
            self.assertEqual(word, "refutation")
            self.assertIs(refutation_holds(world, rounds, demand, found), True)
            self.assertTrue(demanding.refutes(world, rounds, demand, found))
        return word

    def test_a_table_by_hand(self):
        self.assertEqual(make(losses_world(1, 0, blind=True), 1, anything(1, 1)),
                         ("table", ((((0, 0), 0, ()), 0),)))
        word, table = make(losses_world(1, 0), 2, Demand(1, 4, [[(0, ((3,),), 1)], [(0, ((1, 2),), 0)]], [0]))
        self.assertEqual(word, "table")
        outputs = dict(table)
        self.assertEqual(len(outputs), 4)
        for value in (0, 1):
            first = ((0, value), 0, ())
            self.assertEqual(outputs[first], 3)
            self.assertIn(outputs[(first, 0, ())], (1, 2))

    def test_a_refutation_by_hand(self):
        # Node 0 cannot tell the moves apart; of the marks one asks for 0, the other one for 1.
        world = hints_world(2, (0, 1))
        same = type(world)(1, world.states[:2] + ((0, (0,), False, ((((),), (0,), 0), (((),), (0,), 1))),), 2,
                           blind=True)
        demand = Demand(1, 2, [[(0, ((0,),), 0), (1, ((1,),), 0)]], [0])
        self.assertEqual(make(world, 1, demand)[0], "table")
        self.assertEqual(make(same, 1, demand), ("refutation", ("ask", ((0, 0), 0, ()), (
            ("broken", ((0,), (1,))), ("broken", ((0,), (0,)))))))
        self.assertEqual(make(TWO, 1, NEVER), ("refutation", ("broken", ((0, 0), (0,)))))

    def test_demands_with_no_row(self):
        for world, rounds in CASES[:20]:
            demand = Demand(world.nodes, 3, [[]], [0])
            word = make(world, rounds, demand)[0]
            self.assertEqual(word, "refutation" if rounds else "table")
            self.check(world, rounds, demand)

    def test_many_cases_by_chance(self):
        words = []
        for world, rounds, demand in some_cases(700):
            product = 1
            opened = demanding.open_outputs(world, rounds, demand)
            for outputs in opened.values():
                product *= max(1, len(outputs))
            if product > 2 ** 20 or len(opened) > 60:
                self.assertEqual(error_of(make, world, rounds, demand), ("TooMany", "sights"))
                continue
            word = self.check(world, rounds, demand)
            words.append(word)
            self.assertEqual(word == "table", demanding.some_table_works(world, rounds, demand, opened))
        self.assertGreater(min(words.count("table"), words.count("refutation")), 120)

    def test_a_table_exactly_if_no_refutation_holds(self):
        # A tree that asks everything has broken runs at all its ends exactly if there is no table.
        many = [0, 0]
        for world, rounds, demand in some_cases(400):
            texts = sorted(sights_of(world, rounds))
            if 0 < rounds and demand.outs ** len(texts) <= 32:
                word, _ = make(world, rounds, demand)
                tree = self.whole_tree(world, rounds, demand, texts, {})
                self.assertIs(refutation_holds(world, rounds, demand, tree), word == "refutation")
                many[word == "table"] += 1
        self.assertGreater(min(many), 10)

    def whole_tree(self, world, rounds, demand, texts, chosen):
        """A refutation that asks all sights, with a run at each end in which the table fails, if there is one."""
        if len(chosen) < len(texts):
            text = texts[len(chosen)]
            branches = [self.whole_tree(world, rounds, demand, texts, {**chosen, text: output})
                        for output in range(demand.outs)]
            return ["ask", sights_of(world, rounds)[text], branches]
        listed_runs = reference.all_runs(world, rounds)
        broken = [run for run in listed_runs
                  if not demanding.kept(world, run, demand, demanding.outputs_in(world, run, chosen))]
        return ("broken", (broken + listed_runs)[0])

    def test_one_to_four_outputs_and_one_to_three_rounds(self):
        found = {}
        for outs in (1, 2, 3, 4):
            for rounds in (1, 2, 3):
                for seed in range(30):
                    source = random.Random(seed)
                    world = (losses_world(1, 0), silent_world(2, blind=True), stops_world(2, 1, blind=True))[seed % 3]
                    demand = demanding.random_demand(source, world, most_rows=4)
                    states = [[row for row in rows if source.random() < 0.9] for rows in demand.states]
                    demand = Demand(world.nodes, max(outs, demand.outs), states, demand.starts)
                    if error_of(make, world, rounds, demand) is None:
                        word = self.check(world, rounds, demand)
                        found[(demand.outs, rounds, word)] = True
        self.assertEqual(len(found), 24)

    def test_several_starts(self):
        # Which start is taken is not said: the outputs have to be those of one of them.
        states = [[(0, ((value,), (value,)), value)] for value in (0, 1, 2)]
        for starts in ([0], [1, 2], [0, 1, 2], [[0], [1], [1], [0]]):
            self.check(TWO, 2, Demand(2, 3, states, starts))
            self.assertEqual(make(TWO, 2, Demand(2, 3, states, starts))[0], "table")
        silent = silent_world(2)
        self.assertEqual(self.check(silent, 2, Demand(2, 3, states, [0, 1])), "table")
        # Each node has to know the other one's input.
        self.assertEqual(self.check(silent, 2, Demand(2, 3, states, [[0], [1], [1], [0]])), "refutation")
        self.assertEqual(self.check(losses_world(2, 0), 2, Demand(2, 3, states, [[0], [1], [1], [0]])), "table")
        self.assertEqual(self.check(losses_world(2, 1), 1, Demand(2, 3, states, [[0], [1], [1], [0]])), "refutation")

    def test_agreement_as_a_demand(self):
        words = []
        cases = [(losses_world(2, 0), 1), (losses_world(2, 1), 1), (losses_world(2, 1), 2), (stops_world(2, 0), 1),
                 (stops_world(2, 1), 1), (stops_world(2, 1), 2), (stops_world(3, 1), 1), (losses_world(1, 0), 5),
                 (silent_world(2), 1), (silent_world(2, blind=True), 3), (stops_world(3, 1, blind=True), 2)]
        for world, rounds in cases + [case for case in CASES if case[1]]:
            last = [sight(world, run, node, rounds) for run in runs(world, rounds)
                    for node in world.states[states_of(world, run)[-1]][1]]
            demand = agreement_demand(world, rounds)
            if len(sights_of(world, rounds)) <= 60 and error_of(make, world, rounds, demand) is None:
                word, found = make(world, rounds, demand)
                self.assertEqual(word == "table", agree(world, rounds, sights=last)[0] == "program")
                words.append(word)
                if word == "refutation":
                    self.assertTrue(refutation_holds(world, rounds, demand, found))
                else:
                    self.assertIsNone(broken_run(world, rounds, demand, found))
        self.assertGreater(min(words.count("table"), words.count("refutation")), 10)

    def test_every_run_keeps_what_the_table_says(self):
        for world, rounds, demand in some_cases(150, 3):
            if error_of(make, world, rounds, demand) is None:
                word, table = make(world, rounds, demand)
                if word == "table":
                    chosen = {repr(told): output for told, output in table}
                    for time in range(rounds + 1):
                        for run in runs(world, time):
                            outputs = demanding.outputs_in(world, run, chosen)
                            self.assertIs(keeps(world, run, demand, outputs), True)

    def test_sights_of_nodes_that_stop_later_count(self):
        # A node that has output 0 may not stop, but for once it does not know whether it will.
        world = stops_world(1, 1)
        zero, one, gone = (0, ((0,),), 2), (0, ((1,),), 1), (1, (None,), 1)
        demand = Demand(1, 2, [[zero, one, gone], [one, gone], [zero, one]], [0])
        for rounds in (2, 3, 4):
            word, table = make(world, rounds, demand)
            self.assertEqual(word, "table")
            self.assertEqual([output for _, output in table], [1] * 2 * rounds)
        self.assertEqual(make(world, 3, Demand(1, 2, [[zero, gone], [gone], [zero]], [0]))[0], "refutation")

    def test_0_and_5_rounds(self):
        for world in (losses_world(2, 2), stops_world(3, 3), silent_world(4)):
            self.assertEqual(make(world, 0, Demand(world.nodes, 2, [[]], [0])), ("table", ()))
        self.assertEqual(self.check(TWO, 5, SAME), "table")
        self.assertEqual(len(make(TWO, 5, SAME)[1]), 10)
        late = Demand(2, 2, [[(0, ((0,), (0,)), at + 1)] for at in range(4)] + [[(0, ((1,), (0,)), 0)], []], [0])
        self.assertEqual(self.check(TWO, 5, late), "table")
        stuck = Demand(2, 2, [[(0, ((0,), (0,)), at + 1)] for at in range(4)] + [[]], [0])
        self.assertEqual(self.check(TWO, 4, stuck), "table")
        self.assertEqual(self.check(TWO, 5, stuck), "refutation")

    def test_16_outputs(self):
        demand = Demand(1, 16, [[(0, ((15,),), 0), (0, (tuple(range(16)),), 1)], [(0, ((3, 15),), 1)]], [0])
        self.assertEqual(self.check(losses_world(1, 0, blind=True), 3, demand), "table")
        self.assertEqual(self.check(hints_world(5), 1, Demand(1, 16, [[(0, (range_of(16),), 0)]], [0])), "table")
        split = Demand(1, 16, [[(0, ((7,),), 0), (1, ((8,),), 0)]], [0])
        blurred = hints_world(4, (0, 1))
        self.assertEqual(self.check(blurred, 1, split), "table")
        moves = tuple((heard, (0,), to) for heard, _, to in blurred.states[2][3][:2])
        one = type(blurred)(1, blurred.states[:2] + ((0, (0,), False, moves),), 2, blind=True)
        self.assertEqual(self.check(one, 1, split), "refutation")

    def test_60_and_61_sights(self):
        for demand in (anything(1, 1), Demand(1, 16, [[(0, ((5,),), 0)]], [0]), Demand(1, 2, [[]], [0])):
            self.check(hints_world(60), 1, demand)
            self.assertEqual(error_of(make, hints_world(61), 1, demand), ("TooMany", "sights"))
        self.assertEqual(len(make(hints_world(60), 1, anything(1, 1))[1]), 60)
        self.assertEqual(make(hints_world(30), 2, anything(1, 1))[0], "table")
        self.assertEqual(error_of(make, hints_world(31), 2, anything(1, 1)), ("TooMany", "sights"))
        # Sights of time 0 do not count.
        self.assertEqual(make(chain_world([7], nodes=1, blind=False), 1, anything(1, 2))[0], "table")

    def test_open_outputs_multiplied_just_at_the_bound_and_above_it(self):
        for hints, outs in ((20, 2), (10, 4), (5, 16)):
            self.assertEqual(self.check(hints_world(hints), 1, anything(1, outs)), "table")
            self.assertEqual(error_of(make, hints_world(hints + 1), 1, anything(1, outs)), ("TooMany", "sights"))
        self.assertEqual(self.check(hints_world(12), 1, anything(1, 3)), "table")
        self.assertEqual(error_of(make, hints_world(13), 1, anything(1, 3)), ("TooMany", "sights"))
        # Of the others just the outputs that are open count.
        narrow = Demand(1, 16, [[(0, ((4, 5),), 0)]], [0])
        self.assertEqual(self.check(hints_world(20), 1, narrow), "table")
        self.assertEqual(error_of(make, hints_world(21), 1, narrow), ("TooMany", "sights"))

    def test_1_in_place_of_0(self):
        # There is no row for the mark 1.
        demand = anything(1, 2)
        self.assertEqual(self.check(hints_world(40, (0, 1)), 1, demand), "refutation")
        self.assertEqual(self.check(hints_world(39, (0, 1)), 1, demand), "refutation")
        self.assertEqual(error_of(make, hints_world(41, (0, 1)), 1, demand), ("TooMany", "sights"))
        self.assertEqual(self.check(hints_world(40, (0, 1)), 1, Demand(1, 2, [[(0, ((0, 1),), 0), (1, ((1,),), 0)]],
                                                                   [0])), "table")

    def test_30000_runs_and_more(self):
        same = fan_world(15, 0)
        self.assertEqual(error_of(make, same, 2, anything(1, 1)), ("TooMany", "sights"))
        for demand in (anything(1, 1), anything(2, 1)):
            self.assertEqual(error_of(make, fan_world(15, 1), 2, demand), ("TooMany", "runs"))
            self.assertEqual(error_of(broken_run, fan_world(15, 1), 2, demand, None), ("TooMany", "runs"))
        self.assertEqual(make(fan_world(15, 1), 1, anything(1, 1, marks=range(3)))[0], "table")
        self.assertEqual(error_of(broken_run, same, 2, anything(1, 1), None), ("BadValue", 4))
        self.assertEqual(broken_run(same, 2, anything(1, 1), ())[1], (0, 1))
        # Many runs in which just four sights occur: states that nobody can tell apart, of seven marks.
        states = [(number % 7, (0,), False, [(((),), (0,), to) for to in range(13)]) for number in range(13)]
        world = type(same)(1, states, 0, blind=True)
        self.assertEqual(len(runs(world, 4)), 13 ** 4)
        for marks, told in ((range(7), "table"), (range(6), "refutation")):
            word, found = make(world, 4, anything(1, 2, marks=marks))
            self.assertEqual(word, told)
            self.assertIs(refutation_holds(world, 4, anything(1, 2, marks=marks), found), word == "refutation")

    def test_wrong_arguments(self):
        for wrong in (-1, 6, 10 ** 30) + NOT_INTEGERS:
            for world in (TWO, CROWDED):
                self.assertEqual(error_of(make, world, wrong, anything(3, 1)), ("BadValue", 2), repr(wrong)[:80])
        for nodes in (1, 3, 4):
            self.assertEqual(error_of(make, TWO, 1, anything(nodes, 1)), ("BadValue", 3))
        self.assertEqual(error_of(make, hints_world(61), 1, anything(2, 1)), ("BadValue", 3))
        self.assertEqual(error_of(make, CROWDED, 2, anything(3, 1)), ("TooMany", "runs"))
        self.assertEqual(error_of(make, CROWDED, 1, anything(3, 1)), ("BadValue", 3))


def range_of(outs):
    return tuple(range(outs))


class BrokenRun(unittest.TestCase):

    def check(self, world, rounds, demand, table):
        """What broken_run returns is as told; whether the table keeps the demand."""
        found = broken_run(world, rounds, demand, table)
        self.assertEqual(found is None, demanding.works(world, rounds, demand, table))
        if found is None:
            return True
        self.assertTrue(is_plain(found))
        run, place = found
        self.assertIsNone(reference.run_error(world, run))
        self.assertTrue(1 <= len(run[1]) <= rounds)
        chosen = {repr(reference.plain(told)): output for told, output in table}
        places = demanding.places_of(world, run)
        missing = [at for at, text in places.items() if chosen.get(text) not in range(demand.outs)]
        if place is None:
            self.assertEqual(missing, [])
            self.assertFalse(demanding.kept(world, run, demand, demanding.outputs_in(world, run, chosen)))
        else:
            self.assertIn(place, missing)
        return False

    def test_right_and_wrong_tables(self):
        first = [((node, 0), 0, ((1 - node, 0),)) for node in (0, 1)]
        for outputs, told in (((0, 0), True), ((1, 1), True), ((0, 1), False), ((1, 0), False)):
            table = tuple(zip(first, outputs))
            self.assertIs(self.check(TWO, 1, SAME, table), told)
            self.assertIs(self.check(TWO, 1, SAME, listed(table[::-1])), told)
            self.assertIs(self.check(TWO, 2, SAME, table), False)
            self.assertIsNone(broken_run(TWO, 0, SAME, table))
        self.assertEqual(broken_run(TWO, 1, SAME, tuple(zip(first, (0, 1)))), (((0, 0), (0,)), None))
        self.assertEqual(broken_run(TWO, 1, SAME, [[first[0], 0]]), (((0, 0), (0,)), (1, 1)))
        for output in (2, -1, 99, 10 ** 30):
            self.assertEqual(broken_run(TWO, 1, SAME, [(first[0], 0), (first[1], output)]), (((0, 0), (0,)), (1, 1)))

    def test_sights_that_do_not_occur_do_not_matter(self):
        table = make(TWO, 1, SAME)[1]
        for other in (((0, 0), 5), ((0, 1), 0), (None, 7), (True, 1), (5, 1), ("x", 0), ([], 3),
                      ((table[0][0], 0, ()), 9),
                      (((0, 0), False, ((1, 0),)), 1), (((False, 0), 0, ((1, 0),)), 1)):
            self.assertIsNone(broken_run(TWO, 1, SAME, table + (other,)))
            self.assertIsNone(broken_run(TWO, 1, SAME, listed((other,) + table)))
        self.assertIsNone(broken_run(TWO, 1, SAME, table + ((1, 0), (True, 0), ("1", 0), ((1,), 0), ((True,), 0))))

    def test_tables_of_make_changed(self):
        source = random.Random(11)
        many = [0, 0]
        for world, rounds, demand in some_cases(250, 2):
            if error_of(make, world, rounds, demand) is None:
                word, table = make(world, rounds, demand)
                if word == "table" and table:
                    self.assertTrue(self.check(world, rounds, demand, table))
                    at = source.randrange(len(table))
                    for change in ([], [(table[at][0], demand.outs)], [(table[at][0], -1)],
                                   [(table[at][0], (table[at][1] + 1) % demand.outs)]):
                        told = self.check(world, rounds, demand, table[:at] + tuple(change) + table[at + 1:])
                        many[told] += 1
        self.assertGreater(min(many), 30)

    def test_tables_by_chance(self):
        source = random.Random(12)
        for world, rounds, demand in some_cases(200, 5):
            table = [(told, source.randrange(demand.outs)) for told in sights_of(world, rounds).values()]
            self.check(world, rounds, demand, table)
            self.check(world, rounds, demand, table[1:])

    def test_no_bound_on_sights(self):
        world = hints_world(100)
        table = [(((0, 0), hint, ()), hint % 2) for hint in range(100)]
        self.assertIsNone(broken_run(world, 1, anything(1, 2), table))
        self.assertEqual(broken_run(world, 1, anything(1, 2), table[:-1]), (((0,), (99,)), (0, 1)))

    def test_a_run_without_a_live_node(self):
        world = stops_world(1, 1)
        demand = Demand(1, 1, [[(0, ((0,),), 0)]], [0])
        table = [(told, 0) for told in sights_of(world, 2).values()]
        run, place = broken_run(world, 2, demand, table)
        self.assertIsNone(place)
        self.assertIn(1, states_of(world, run))
        self.assertIsNone(broken_run(world, 0, demand, ()))
        self.assertIsNone(broken_run(world, 0, Demand(1, 1, [[]], [0]), ()))

    def test_wrong_arguments(self):
        table = make(TWO, 1, SAME)[1]
        (told, output), other = table
        for wrong in (-1, 6, 10 ** 30) + NOT_INTEGERS:
            self.assertEqual(error_of(broken_run, TWO, wrong, anything(3, 1), None), ("BadValue", 2))
            self.assertEqual(error_of(broken_run, CROWDED, wrong, SAME, None), ("BadValue", 2))
        for nodes in (1, 3, 4):
            self.assertEqual(error_of(broken_run, TWO, 1, anything(nodes, 2), None), ("BadValue", 3))
        wrongs = tuple(x for x in JUNK if x not in ([], ())) + (
            [told], [(told,)], [(told, 0, 0)], [(told, True)], [(told, None)], [(told, "0")], [(told, (0,))],
            [other, (told, False)], [(told, output), other, (told, output)], [(told, 0), (listed(told), 1)],
            table + ((listed(other[0]), 5),), [(None, 0), (None, 0)], [([], 0), ((), 1)], [(7, 1), (7, 1)],
            [((True,), 1), ([True], 1)], [("a", 1), ("a", 2)])
        for wrong in wrongs:
            self.assertEqual(error_of(broken_run, TWO, 1, SAME, wrong), ("BadValue", 4), repr(wrong)[:80])
            self.assertEqual(error_of(broken_run, TWO, 0, SAME, wrong), ("BadValue", 4), repr(wrong)[:80])

    def test_what_was_given_is_not_changed(self):
        table = listed(make(TWO, 2, SAME)[1])
        before = copy.deepcopy(table)
        broken_run(TWO, 2, SAME, table)
        self.assertEqual(table, before)


if __name__ == "__main__":
    unittest.main()
