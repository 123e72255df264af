"""Points 14, 40 and 41: facts, what nodes know, and runs that are linked."""

import copy
import random
import unittest

from alikeruns.agreement import agree
from alikeruns.knowledge import common, holds, is_fact, knows, link
from alikeruns.programs import failing_run
from alikeruns.sights import alike, sight
from alikeruns.runs import runs, states_of
from alikeruns.worlds import World, hears_world, losses_world, stops_due, stops_world, with_due, with_marks
from tests import demanding, reference
from tests.agreeing import Book
from tests.reference import listed
from tests.values import (CROWDED, JUNK, NOT_INTEGERS, all_due, chain_world, error_of, fan_world, is_plain,
                          random_world, silent_world, small_cases)

TWO = stops_world(2, 1)
ALL = ((1, 0), (3,))
HIDDEN = ((1, 0), (4,))


def nested(deep, fact=("any", 0)):
    """A fact that is so deep."""
    for _ in range(deep - demanding.depth(fact)):
        fact = ("not", fact)
    return fact


def wrong_facts(nodes):
    """Values that are no facts in a world of so many nodes."""
    return JUNK + (
        ("any",), ("any", 2), ("any", -1), ("any", True), ("any", False), ("any", None), ("any", "0"), ("any", (0,)),
        ("any", 0, 0), ("input", 0), ("input", nodes, 0), ("input", -1, 0), ("input", 0, 2), ("input", 0, -1),
        ("input", True, 0), ("input", 0, True), ("input", 0, 0, 0), ("input", "0", 0), ("live",), ("live", nodes),
        ("live", -1), ("live", False), ("live", 0, 0), ("mark",), ("mark", True), ("mark", None), ("mark", "0"),
        ("mark", (0,)), ("mark", 0, 0), ("not",), ("not", "any"), ("not", ("any", 0), ("any", 0)), ("not", ("any", 2)),
        ("not", ["not", ("live", nodes)]), ("both", ("any", 0)), ("both", ("any", 0), ("any", 0), ("any", 0)),
        ("both", ("any", 0), None), ("both", 0, ("any", 0)), ("both", ("any", 0), ("any", 2)),
        ("both", ("mark", True), ("any", 0)), ("either", ("any", 0), ("any", 0)), (("any", 0),), ("any", ("any", 0)),
        (["any"], 0), "any", ("ANY", 0), (0, "any"), nested(9), nested(40), ("both", ("any", 0), nested(8)),
        ("both", nested(8), ("any", 0)))


class IsFact(unittest.TestCase):

    def test_facts_of_each_kind(self):
        for fact in (("input", 0, 0), ("input", 1, 1), ("any", 0), ("any", 1), ("live", 0), ("live", 1), ("mark", 0),
                     ("mark", 77), ("mark", -1), ("mark", 10 ** 30), ("mark", -10 ** 30), ("not", ("any", 1)),
                     ("both", ("any", 1), ("live", 0)), ("not", ("both", ("not", ("any", 0)), ("mark", 3)))):
            self.assertIs(is_fact(TWO, fact), True)
            self.assertIs(is_fact(TWO, listed(fact)), True)
            self.assertTrue(demanding.is_fact_told(TWO, fact))

    def test_8_and_9_deep(self):
        for leaf in (("any", 0), ("input", 0, 1), ("live", 1), ("mark", 5)):
            self.assertIs(is_fact(TWO, nested(8, leaf)), True)
            self.assertIs(is_fact(TWO, nested(9, leaf)), False)
        both = ("both", nested(7), ("any", 0))
        self.assertIs(is_fact(TWO, both), True)
        self.assertIs(is_fact(TWO, ("both", ("any", 0), nested(7))), True)
        self.assertIs(is_fact(TWO, ("not", both)), False)
        wide = ("live", 0)
        for _ in range(7):
            wide = ("both", wide, wide)
        self.assertIs(is_fact(TWO, wide), True)
        self.assertIs(is_fact(TWO, ("both", wide, ("any", 0))), False)

    def test_what_is_no_fact(self):
        for value in wrong_facts(2):
            self.assertIs(is_fact(TWO, value), False, repr(value)[:80])
            self.assertFalse(demanding.is_fact_told(TWO, value), repr(value)[:80])
            self.assertIs(is_fact(TWO, ("not", value)), False)

    def test_nodes_are_those_of_the_world(self):
        for nodes in (1, 2, 3, 4):
            world = losses_world(nodes, 0)
            for word in (("live",), ("input",)):
                rest = (0,) * (len(word) - 1 + (word[0] == "input"))
                self.assertIs(is_fact(world, (word[0], nodes - 1) + rest), True)
                self.assertIs(is_fact(world, (word[0], nodes) + rest), False)
        self.assertIs(is_fact(losses_world(2, 0, blind=True), ("input", 0, 1)), True)


class Holds(unittest.TestCase):

    def test_facts_of_each_kind(self):
        run = ((1, 0), (3,))
        told = {("input", 0, 1): True, ("input", 0, 0): False, ("input", 1, 0): True, ("any", 0): True,
                ("any", 1): True, ("live", 0): False, ("live", 1): True, ("mark", 1): True, ("mark", 0): False,
                ("mark", 2): False, ("not", ("live", 0)): True, ("both", ("any", 0), ("live", 1)): True,
                ("both", ("any", 0), ("live", 0)): False, ("both", ("live", 0), ("any", 0)): False,
                ("not", ("not", ("mark", 1))): True}
        number = [at for at, move in enumerate(TWO.states[0][3]) if move[2] == 1][0]
        run = ((1, 0), (number,))
        for fact, value in told.items():
            self.assertIs(holds(TWO, run, fact), value, fact)
            self.assertIs(holds(TWO, listed(run), listed(fact)), value, fact)

    def test_at_the_last_time(self):
        number = [at for at, move in enumerate(TWO.states[0][3]) if move[2] == 2][0]
        for moves, live in (((), True), ((0,), True), ((0, number), False), ((number, 0), False)):
            self.assertIs(holds(TWO, ((0, 0), moves), ("live", 1)), live)
        marks = with_marks(chain_world([1, 1, 1, 1, 1, 1]), ())
        world = World(1, [(time,) + marks.states[time][1:] for time in range(6)], 0, blind=True)
        for time in range(6):
            self.assertIs(holds(world, ((0,), (0,) * time), ("mark", time)), True)
            self.assertIs(holds(world, ((0,), (0,) * time), ("mark", time + 1)), False)

    def test_all_small_cases(self):
        for seed in range(25):
            world = random_world(seed)
            for run in runs(world, seed % 3):
                for fact in demanding.some_facts(world):
                    self.assertIs(holds(world, run, fact), demanding.true_in(world, run, fact))

    def test_wrong_runs_and_facts(self):
        for run in JUNK + (((0, 0),), ((0, 0), (), ()), ((0, 2), ()), ((0, True), ()), ((0, 0), (0,) * 6)):
            self.assertEqual(error_of(holds, TWO, run, ("any", 0)), ("BadRun", -1))
            self.assertEqual(error_of(holds, TWO, run, None), ("BadRun", -1))
        self.assertEqual(error_of(holds, TWO, ((0, 0), (0, 99)), None), ("BadRun", 1))
        self.assertEqual(error_of(holds, TWO, ((0, 0), (True,)), None), ("BadRun", 0))
        for fact in wrong_facts(2):
            self.assertEqual(error_of(holds, TWO, ALL, fact), ("BadValue", 3), repr(fact)[:80])


class Knows(unittest.TestCase):

    def test_what_is_heard_is_known(self):
        world = losses_world(2, 0)
        run = ((1, 0), (0,))
        self.assertIs(knows(world, run, 0, ("input", 1, 0)), True)
        self.assertIs(knows(world, run, 1, ("any", 1)), True)
        self.assertIs(knows(world, run, 1, ("any", 0)), True)
        self.assertIs(knows(world, ((1, 0), ()), 1, ("any", 1)), False)
        self.assertIs(knows(world, ((1, 0), ()), 1, ("any", 0)), True)
        self.assertIs(knows(world, run, 0, ("not", ("input", 1, 0))), False)
        self.assertIs(knows(world, listed(run), 0, listed(("not", ("input", 1, 1)))), True)

    def test_what_is_not_heard_is_not_known(self):
        world = losses_world(2, 1)
        run = ((1, 0), (0,))
        self.assertEqual(world.states[0][3][0][0], ((), (0,)))
        self.assertIs(knows(world, run, 0, ("input", 1, 0)), False)
        self.assertIs(knows(world, run, 0, ("not", ("input", 1, 0))), False)
        self.assertIs(knows(world, run, 1, ("input", 0, 1)), True)
        self.assertIs(knows(world, run, 0, ("input", 0, 1)), True)

    def test_who_is_silent_has_stopped(self):
        silent = [at for at, (heard, _, to) in enumerate(TWO.states[0][3]) if heard[1] == () and to == 1][0]
        heard = [at for at, (heard, _, to) in enumerate(TWO.states[0][3]) if heard[1] == (0,) and to == 1][0]
        self.assertIs(knows(TWO, ((0, 0), (silent,)), 1, ("live", 0)), False)
        self.assertIs(knows(TWO, ((0, 0), (silent,)), 1, ("not", ("live", 0))), True)
        self.assertIs(knows(TWO, ((0, 0), (heard,)), 1, ("not", ("live", 0))), False)
        self.assertIs(knows(TWO, ((0, 0), (heard,)), 1, ("live", 0)), False)
        self.assertIs(knows(TWO, ((0, 0), (heard,)), 1, ("live", 1)), True)

    def test_all_small_cases(self):
        answers = []
        for world, rounds in small_cases()[::3]:
            facts = demanding.some_facts(world)
            for run in runs(world, rounds)[::7]:
                for node in world.states[states_of(world, run)[-1]][1]:
                    near = demanding.alike_runs(world, run, node)
                    for fact in facts[::2]:
                        told = all(demanding.true_in(world, other, fact) for other in near)
                        self.assertIs(knows(world, run, node, fact), told)
                        answers.append(told)
                        # What a node knows holds.
                        if told:
                            self.assertTrue(holds(world, run, fact))
        self.assertGreater(answers.count(True), 1000)
        self.assertGreater(answers.count(False), 1000)

    def test_of_runs_of_the_same_length_only(self):
        # Of all runs of two moves none keeps the mark 0.
        world = with_due(losses_world(1, 0), ())
        states = [(number, live, due, moves) for number, (_, live, due, moves) in enumerate(world.states)]
        world = World(1, states, 0)
        for time in range(6):
            self.assertIs(knows(world, ((0,), (0,) * time), 0, ("mark", time)), True)

    def test_a_right_program_decides_what_is_known(self):
        many = [0, 0]
        for world, rounds in small_cases()[::2]:
            book = Book(world, rounds)
            for run in book.runs[::5]:
                for node in world.states[states_of(world, run)[-1]][1]:
                    for value in (0, 1):
                        told = knows(world, run, node, ("any", value))
                        program = ((sight(world, run, node, len(run[1])), value),)
                        self.assertEqual(failing_run(world, rounds, program, sights=()) is None, told)
                        many[told] += 1
            word, program = agree(world, rounds)
            if word == "program":
                values = book.values(program)
                for run in book.runs:
                    for (node, time), text in book.seen[run].items():
                        if text in values and time == len(run[1]):
                            self.assertTrue(knows(world, run, node, ("any", values[text])))
        self.assertGreater(min(many), 200)

    def test_0_and_5_rounds(self):
        world = losses_world(2, 1)
        self.assertIs(knows(world, ((0, 1), ()), 0, ("any", 0)), True)
        self.assertIs(knows(world, ((0, 1), (2,) * 5), 0, ("both", ("any", 0), ("any", 1))), True)
        self.assertIs(knows(world, ((0, 1), (0,) * 5), 0, ("any", 1)), False)

    def test_wrong_arguments(self):
        stopped = [at for at, move in enumerate(TWO.states[0][3]) if move[2] == 1][0]
        run = ((0, 0), (stopped,))
        for node in (0, 2, -1, 10 ** 30) + NOT_INTEGERS:
            self.assertEqual(error_of(knows, TWO, run, node, ("any", 0)), ("BadValue", 3), repr(node)[:80])
            self.assertEqual(error_of(knows, TWO, run, node, ("any", 2)), ("BadValue", 4))
            self.assertEqual(error_of(knows, TWO, ((0, 0), (99,)), node, ("any", 2)), ("BadRun", 0))
        for fact in wrong_facts(2):
            self.assertEqual(error_of(knows, TWO, run, 1, fact), ("BadValue", 4), repr(fact)[:80])
        for wrong in JUNK:
            self.assertEqual(error_of(knows, TWO, wrong, None, wrong), ("BadRun", -1))

    def test_30000_runs_and_more(self):
        just = fan_world(15, 0)
        self.assertIs(knows(just, ((0,), (14, 7)), 0, ("any", 0)), True)
        self.assertIs(knows(just, ((0,), (14, 7)), 0, ("mark", 0)), False)
        more = fan_world(15, 1)
        self.assertEqual(error_of(knows, more, ((0,), (14, 7)), 0, ("any", 0)), ("TooMany", "runs"))
        # All else stands ahead of TooMany; shorter runs are not too many.
        self.assertEqual(error_of(knows, more, ((0,), (14, 7)), 1, ("any", 0)), ("BadValue", 3))
        self.assertEqual(error_of(knows, more, ((0,), (14, 7)), 1, ("any", 2)), ("BadValue", 4))
        self.assertIs(knows(more, ((0,), (14,)), 0, ("any", 0)), True)

    def test_what_was_given_is_not_changed(self):
        for call, arguments in ((knows, ([[1, 0], [0]], 1, ["not", ["both", ["any", 0], ["mark", 1]]])),
                                (holds, ([[1, 0], [0]], ["not", ["both", ["any", 0], ["mark", 1]]])),
                                (common, ([[1, 0], [0]], ["not", ["both", ["any", 0], ["mark", 1]]])),
                                (link, ([[1, 0], [0]], [[0, 0], [0]]))):
            before = copy.deepcopy(arguments)
            call(losses_world(2, 1), *arguments)
            self.assertEqual(arguments, before)


class Link(unittest.TestCase):

    def check_row(self, world, one, other, found):
        rows, nodes = found
        self.assertTrue(is_plain(found))
        self.assertEqual(len(rows), len(nodes) + 1)
        self.assertEqual((rows[0], rows[-1]), (reference.plain(one), reference.plain(other)))
        for first, second, node in zip(rows, rows[1:], nodes):
            self.assertEqual(len(first[1]), len(one[1]))
            self.assertTrue(reference.look_alike(world, first, second, node, len(one[1])))
            self.assertTrue(alike(world, first, second, node, len(one[1])))

    def test_a_run_is_linked_to_itself(self):
        for world in (TWO, losses_world(3, 1), silent_world(4), stops_world(2, 2)):
            for run in runs(world, 1)[::3]:
                self.assertEqual(link(world, run, listed(run)), ((run,), ()))
        gone = [at for at, move in enumerate(stops_world(2, 2).states[0][3]) if move[2] == 3][0]
        run = ((0, 1), (gone, 0))
        self.assertEqual(link(stops_world(2, 2), run, run), ((run,), ()))
        self.assertIsNone(link(stops_world(2, 2), run, ((0, 0), (gone, 0))))

    def test_runs_that_are_linked_and_runs_that_are_not(self):
        world = losses_world(2, 1)
        for one in runs(world, 2)[::5]:
            for other in runs(world, 2)[::3]:
                self.check_row(world, one, other, link(world, one, other))
        heard = losses_world(2, 0)
        self.assertIsNone(link(heard, ((0, 0), (0,)), ((0, 1), (0,))))
        self.assertEqual(link(heard, ((0, 0), ()), ((0, 1), ())), ((((0, 0), ()), ((0, 1), ())), (0,)))
        self.assertEqual(link(heard, ((1, 1), ()), ((0, 0), ()))[1] in ((0, 1), (1, 0)), True)

    def test_all_small_cases(self):
        answers = []
        source = random.Random(4)
        for world, rounds in small_cases()[::4]:
            listed_runs = reference.all_runs(world, rounds)
            for one in source.sample(listed_runs, min(2, len(listed_runs))):
                near = demanding.linked_runs(world, one)
                for other in listed_runs[::9]:
                    found = link(world, one, other)
                    answers.append(found is None)
                    self.assertEqual(found is None, other not in near)
                    if found is not None:
                        self.check_row(world, one, other, found)
        self.assertGreater(min(answers.count(True), answers.count(False)), 40)

    def test_wrong_runs_and_lengths(self):
        good = ((0, 0), (0,))
        for wrong in JUNK + (((0, 0), (0,) * 6),):
            self.assertEqual(error_of(link, TWO, wrong, good), ("BadRun", -1))
            self.assertEqual(error_of(link, TWO, good, wrong), ("BadRun", -1))
            self.assertEqual(error_of(link, TWO, ((0, 0), (0, 99)), wrong), ("BadRun", 1))
        self.assertEqual(error_of(link, TWO, ((0, 0), (0, 0)), ((0, 0), (99,))), ("BadRun", 0))
        for moves in ((), (0, 0), (0,) * 5):
            self.assertEqual(error_of(link, TWO, good, ((0, 0), moves)), ("BadValue", 3))
            self.assertEqual(error_of(link, TWO, ((0, 0), moves), good), ("BadValue", 3))

    def test_30000_runs_and_more(self):
        just, more = fan_world(15, 0), fan_world(15, 1)
        self.assertIsNone(link(just, ((0,), (0, 0)), ((0,), (0, 1))))
        self.assertEqual(error_of(link, more, ((0,), (0, 0)), ((0,), (0, 0))), ("TooMany", "runs"))
        self.assertEqual(error_of(link, more, ((0,), (0, 0)), ((0,), (0,))), ("BadValue", 3))
        self.assertIsNone(link(more, ((0,), (0,)), ((0,), (1,))))
        self.assertEqual(error_of(link, CROWDED, ((0,) * 4, (0, 0)), ((0,) * 4, (0, 0))), ("TooMany", "runs"))


class Common(unittest.TestCase):

    def test_what_is_common(self):
        heard = losses_world(2, 0)
        self.assertIs(common(heard, ((1, 0), (0,)), ("input", 0, 1)), True)
        self.assertIs(common(heard, ((1, 0), ()), ("input", 0, 1)), False)
        lossy = losses_world(2, 1)
        for run in runs(lossy, 2)[::4]:
            self.assertIs(common(lossy, run, ("input", 0, run[0][0])), False)
            self.assertIs(common(lossy, run, ("any", run[0][0])), False)
            self.assertIs(common(lossy, run, ("both", ("live", 0), ("mark", 0))), True)
            self.assertIs(common(lossy, listed(run), ["not", ["mark", 1]]), True)

    def test_it_becomes_common_when_all_can_decide(self):
        # Nodes that can all decide have it in common that the value is an input.
        for nodes, most, rounds in ((3, 1, 2), (3, 1, 1)):
            world = stops_world(nodes, most)
            told = [common(world, run, ("any", 0)) or common(world, run, ("any", 1)) for run in runs(world, rounds)]
            self.assertIs(all(told), rounds == most + 1)

    def test_all_small_cases(self):
        answers = []
        source = random.Random(8)
        for world, rounds in small_cases()[::4]:
            listed_runs = reference.all_runs(world, rounds)
            for run in source.sample(listed_runs, min(3, len(listed_runs))):
                near = demanding.linked_runs(world, run)
                for fact in demanding.some_facts(world)[::2]:
                    told = all(demanding.true_in(world, other, fact) for other in near)
                    self.assertIs(common(world, run, fact), told)
                    answers.append(told)
                    # What is common is known to every live node, in every run that is linked.
                    for other in list(near)[::5] if told else ():
                        self.assertTrue(common(world, other, fact))
                        for node in world.states[states_of(world, other)[-1]][1]:
                            self.assertTrue(knows(world, other, node, fact))
        self.assertGreater(min(answers.count(True), answers.count(False)), 200)

    def test_wrong_runs_and_facts(self):
        for wrong in JUNK:
            self.assertEqual(error_of(common, TWO, wrong, wrong), ("BadRun", -1))
        for fact in wrong_facts(2):
            self.assertEqual(error_of(common, TWO, ALL, fact), ("BadValue", 3), repr(fact)[:80])

    def test_30000_runs_and_more(self):
        just, more = fan_world(15, 0), fan_world(15, 1)
        self.assertIs(common(just, ((0,), (3, 5)), ("any", 0)), True)
        self.assertEqual(error_of(common, more, ((0,), (3, 5)), ("any", 0)), ("TooMany", "runs"))
        self.assertEqual(error_of(common, more, ((0,), (3, 5)), ("any", 2)), ("BadValue", 3))
        self.assertIs(common(more, ((0,), (3,)), ("any", 0)), True)

    def test_with_due_and_without(self):
        world = with_due(stops_world(2, 1), stops_due(2, 1))
        for run in runs(world, 1)[::3]:
            self.assertEqual(common(world, run, ("any", 0)), common(stops_world(2, 1), run, ("any", 0)))
        self.assertIs(common(all_due(hears_world(2, 1), 1), ((0, 1), (0,)), ("any", 1)), True)


if __name__ == "__main__":
    unittest.main()
