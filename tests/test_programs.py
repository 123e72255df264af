"""Points 3, 29, 31 and 35: programs, and the runs in which they fail."""

import copy
import random
import unittest

from alikeruns.agreement import agree
from alikeruns.keen import keen
from alikeruns.programs import failing_run
from alikeruns.sights import due_sights
from alikeruns.worlds import World, losses_world, stops_due, stops_world, with_due
from tests.agreeing import Book
from tests.reference import listed
from tests.values import (CROWDED, JUNK, NOT_INTEGERS, NOT_SEQUENCES, all_due, chain_world, error_of, fan_world,
                          is_plain, silent_world, small_cases)

TWO = losses_world(2, 0)
# Both hear each other and decide the lesser input.
LESSER = tuple((((node, mine), 0, ((1 - node, yours),)), min(mine, yours))
               for node in (0, 1) for mine in (0, 1) for yours in (0, 1))
DUE = all_due(TWO, 1)


def without(program, place):
    return program[:place] + program[place + 1:]


def with_value(program, place, value):
    return program[:place] + ((program[place][0], value),) + program[place + 1:]


class FailingRun(unittest.TestCase):

    def check(self, book, program, answer, asked):
        """The answer for a program and the texts of the sights that are asked for."""
        values = book.values(program)
        if answer is None:
            self.assertTrue(book.works(values, asked))
            return "right"
        self.assertTrue(is_plain(answer))
        self.assertEqual(len(answer), 3)
        run, word, places = answer
        self.assertIn(run, book.runs)
        self.assertIn((word, places), book.failures(run, values, asked))
        return word

    def test_right_programs(self):
        self.assertIsNone(failing_run(DUE, 1, LESSER))
        self.assertIsNone(failing_run(DUE, 1, LESSER[::-1]))
        self.assertIsNone(failing_run(DUE, 1, listed(LESSER)))
        self.assertIsNone(failing_run(DUE, 2, LESSER))
        self.assertIsNone(failing_run(TWO, 1, ()))
        self.assertIsNone(failing_run(TWO, 5, []))
        greater = tuple((told, max(told[0][1], told[2][0][1])) for told, _ in LESSER)
        self.assertIsNone(failing_run(DUE, 1, greater))

    def test_undecided(self):
        for place in range(8):
            run, word, places = failing_run(DUE, 1, without(LESSER, place))
            told = LESSER[place][0]
            self.assertEqual((word, places), ("undecided", ((told[0][0], 1),)))
            self.assertEqual(run[0][told[0][0]], told[0][1])
            self.assertEqual(run[0][1 - told[0][0]], told[2][0][1])
        run, word, places = failing_run(DUE, 1, ())
        self.assertEqual((word, len(places), places[0][1]), ("undecided", 1, 1))

    def test_a_decision_that_comes_too_late_is_none_by_then(self):
        world = all_due(TWO, 2)
        second = agree(world, 2)[1]
        self.assertIsNone(failing_run(world, 2, second))
        self.assertEqual(failing_run(DUE, 2, second)[1], "undecided")
        self.assertEqual(failing_run(DUE, 2, second)[2][0][1], 1)
        self.assertIsNone(failing_run(DUE, 2, LESSER + second))

    def test_unlike(self):
        run, word, places = failing_run(DUE, 1, with_value(LESSER, 1, 1))
        self.assertEqual((run[0], word, places), ((0, 1), "unlike", ((0, 1), (1, 1))))
        run, word, places = failing_run(DUE, 1, with_value(LESSER, 5, 1))
        self.assertEqual((run[0], word, places), ((1, 0), "unlike", ((0, 1), (1, 1))))

    def test_invalid(self):
        zeros = with_value(with_value(LESSER, 0, 1), 4, 1)
        run, word, places = failing_run(DUE, 1, zeros)
        self.assertEqual((run[0], word), ((0, 0), "invalid"))
        self.assertIn(places, (((0, 1),), ((1, 1),)))
        ones = with_value(with_value(LESSER, 3, 0), 7, 0)
        run, word, places = failing_run(DUE, 1, ones)
        self.assertEqual((run[0], word), ((1, 1), "invalid"))
        run, word, places = failing_run(TWO, 0, (((1, 0), 1),))
        self.assertEqual((run, word, places), (((0, 0), ()), "invalid", ((1, 0),)))

    def test_the_first_pair_of_two_is_the_lesser_one(self):
        # Node 2 decides first, and node 0 last.
        world = losses_world(3, 0, blind=False)
        first = ((2, 1), 1)
        last = tuple((told, 0) for told in due_sights(all_due(world, 1), 1) if told[0] == (0, 0))
        run, word, places = failing_run(world, 1, (first,) + last)
        self.assertEqual((word, places), ("unlike", ((0, 1), (2, 0))))
        self.assertEqual((run[0][0], run[0][2]), (0, 1))

    def test_only_the_first_decision_of_a_node_counts(self):
        second = tuple((told, 1 - value) for told, value in agree(all_due(TWO, 2), 2)[1])
        self.assertIsNone(failing_run(DUE, 2, LESSER + second))
        self.assertIsNone(failing_run(DUE, 2, second + LESSER))
        self.assertIsNotNone(failing_run(DUE, 2, second))

    def test_decisions_of_nodes_that_stop_later_count(self):
        world = stops_world(2, 1)
        alone = ((1, 1), 0, ())
        program = (((0, 0), 0), (alone, 1))
        self.assertIsNone(failing_run(world, 0, program))
        run, word, places = failing_run(world, 1, program)
        self.assertEqual((word, places), ("unlike", ((0, 0), (1, 1))))
        self.assertEqual(run[0], (0, 1))
        self.assertIsNone(failing_run(world, 1, program[:1]))
        self.assertIsNone(failing_run(world, 1, program[1:]))
        # All stop in the end, and nobody is left to disagree with.
        gone = ((None, None), (None, None), 1)
        ending = World(2, [(0, (0, 1), False, [gone]), (1, (), False, [gone])], 0)
        self.assertEqual(failing_run(ending, 3, (((0, 0), 0), ((1, 1), 1)))[1], "unlike")
        self.assertEqual(failing_run(ending, 3, (((0, 0), 1),))[1], "invalid")

    def test_what_is_asked_for_of_nodes_that_stop_later(self):
        gone = ((None, ()), (None, 0), 1)
        world = World(2, [(0, (0, 1), True, [gone]), (1, (1,), False, [gone])], 0)
        program = (((1, 0), 0), ((1, 1), 1))
        self.assertEqual(failing_run(world, 2, program)[1:], ("undecided", ((0, 0),)))
        self.assertIsNone(failing_run(world, 2, program, sights=[(1, 0), (1, 1)]))

    def test_sights_that_are_given(self):
        for sights in ((), [], [(0, 0)], [((0, 0), 0, ((1, 0),))], listed([((0, 0), 0, ((1, 0),))] * 2)):
            word = "undecided" if sights == [(0, 0)] else None
            answer = failing_run(TWO, 1, LESSER, sights=sights)
            self.assertEqual(answer and answer[1], word)
        self.assertEqual(failing_run(DUE, 1, (), sights=()), None)
        self.assertEqual(failing_run(DUE, 1, ())[1], "undecided")
        self.assertEqual(failing_run(DUE, 1, (), sights=None)[1], "undecided")
        run, word, places = failing_run(TWO, 1, (), sights=[((1, 0), 0, ((0, 1),))])
        self.assertEqual((run[0], word, places), ((1, 0), "undecided", ((1, 1),)))

    def test_in_a_blind_world_only_0_is_an_input(self):
        world = stops_world(2, 1, blind=True)
        self.assertIsNone(failing_run(world, 2, (((0, 0), 0), ((1, 0), 0))))
        self.assertEqual(failing_run(world, 2, (((0, 0), 1),))[1:], ("invalid", ((0, 0),)))
        self.assertIsNone(failing_run(world, 2, (((0, 1), 1),)))

    def test_programs_by_chance(self):
        source = random.Random(4)
        words = []
        for world, rounds in small_cases():
            book = Book(world, rounds)
            texts = sorted(book.sights)
            for many in (0, 1, 2, 3, len(texts) // 2, len(texts)):
                chosen = source.sample(texts, min(many, len(texts)))
                program = tuple((book.sights[text], source.randint(0, 1)) for text in chosen)
                asked = source.sample(texts, source.randint(0, min(2, len(texts))))
                sights = [book.sights[text] for text in asked]
                words.append(self.check(book, program, failing_run(world, rounds, program, sights=sights), asked))
                words.append(self.check(book, program, failing_run(world, rounds, program), book.due()))
        for word in ("right", "undecided", "unlike", "invalid"):
            self.assertGreater(words.count(word), 40, word)

    def test_right_programs_that_are_changed_by_chance(self):
        source = random.Random(8)
        words = []
        for world, rounds in small_cases():
            book = Book(world, rounds)
            for word, program in (agree(world, rounds), keen(world, rounds)):
                if word == "program" and program:
                    self.assertIsNone(failing_run(world, rounds, program))
                    place = source.randrange(len(program))
                    fewer = without(program, place)
                    words.append(self.check(book, fewer, failing_run(world, rounds, fewer), book.due()))
                    other = with_value(program, place, 1 - program[place][1])
                    words.append(self.check(book, other, failing_run(world, rounds, other), book.due()))
        for word in ("right", "undecided", "unlike", "invalid"):
            self.assertGreater(words.count(word), 15, word)

    def test_sights_that_do_not_occur_do_not_matter(self):
        strange = tuple((value, place % 2) for place, value in enumerate(DIFFERENT))
        self.assertIsNone(failing_run(DUE, 1, LESSER + strange))
        self.assertIsNone(failing_run(DUE, 1, listed(strange + LESSER)))
        later = agree(all_due(TWO, 2), 2)[1]
        self.assertIsNone(failing_run(DUE, 1, LESSER + tuple((told, 1 - value) for told, value in later)))
        self.assertEqual(failing_run(DUE, 1, without(LESSER, 0) + strange)[1], "undecided")

    def test_a_bool_is_no_integer_in_a_sight(self):
        self.assertIsNone(failing_run(TWO, 0, (((0, True), 0), ((False, 0), 1))))
        self.assertEqual(failing_run(TWO, 0, (((0, 1), 0), ((0, True), 0)))[1], "invalid")
        self.assertIsNone(failing_run(TWO, 1, ((((0, 0), False, ((1, 0),)), 1),)))
        self.assertEqual(failing_run(TWO, 1, ((((0, 0), 0, ((1, 0),)), 1),))[1], "invalid")

    def test_programs_with_a_sight_twice(self):
        for told in DIFFERENT + JUNK + (LESSER[0][0],):
            for one in (told, listed(told)):
                for values in ((0, 0), (0, 1), (1, 1)):
                    program = ((told, values[0]), (one, values[1]))
                    self.assertEqual(error_of(failing_run, TWO, 1, program), ("BadValue", 3), repr(told)[:80])
                    self.assertEqual(error_of(failing_run, TWO, 1, LESSER[1:] + program), ("BadValue", 3))

    def test_values_that_are_not_the_same(self):
        program = [(value, 0) for value in DIFFERENT]
        self.assertIsNone(failing_run(silent_world(2), 1, program))

    def test_wrong_programs(self):
        for program in NOT_SEQUENCES + ((None,), (0,), ("ab",), ("01",), ((),), (((0, 0),),), (((0, 0), 0, 0),),
                                        [[(0, 0), 0], None], [[(0, 0), 0], [(0, 1), 1], 1], {}):
            self.assertEqual(error_of(failing_run, TWO, 1, program), ("BadValue", 3), repr(program)[:80])
        for value in (2, -1) + tuple(value for value in JUNK if value not in (0, 1) or isinstance(value, bool)):
            for told in ((0, 0), LESSER[0][0], "x", None):
                for program in (((told, value),), [[told, value]], LESSER[1:] + ((told, value),)):
                    self.assertEqual(error_of(failing_run, TWO, 1, program), ("BadValue", 3), repr(program)[:80])

    def test_wrong_sights(self):
        for sights in NOT_SEQUENCES:
            if sights is not None:
                self.assertEqual(error_of(failing_run, TWO, 1, LESSER, sights=sights), ("BadValue", 4))
        for told in JUNK + ((0, 2), (0, True), (2, 0), ((0, 0), 0, ()), (LESSER[0][0], 0, (LESSER[4][0],))):
            self.assertEqual(error_of(failing_run, TWO, 1, LESSER, sights=[told]), ("BadValue", 4), repr(told)[:80])
            self.assertEqual(error_of(failing_run, TWO, 1, LESSER, sights=[(0, 0), told]), ("BadValue", 4))

    def test_several_faults_at_once(self):
        for program in (LESSER, None, ((1, 2),)):
            for sights in (None, 0, [0]):
                self.assertEqual(error_of(failing_run, CROWDED, None, program, sights=sights), ("BadValue", 2))
                self.assertEqual(error_of(failing_run, CROWDED, 2, program, sights=sights), ("TooMany", "runs"))
                if program != LESSER:
                    self.assertEqual(error_of(failing_run, TWO, 1, program, sights=sights), ("BadValue", 3))
        self.assertEqual(error_of(failing_run, TWO, 1, LESSER, sights=[0]), ("BadValue", 4))
        # A program that fails does not hide that the sights are wrong.
        self.assertEqual(error_of(failing_run, TWO, 1, (((0, 0), 1),), sights=[0]), ("BadValue", 4))

    def test_wrong_rounds(self):
        for rounds in (-1, 6, 10 ** 30) + NOT_INTEGERS:
            self.assertEqual(error_of(failing_run, TWO, rounds, LESSER), ("BadValue", 2))

    def test_30000_runs_and_more(self):
        self.assertIsNone(failing_run(fan_world(15, 0), 2, (((0, 0), 0),)))
        self.assertEqual(failing_run(fan_world(15, 0), 2, ())[1], "undecided")
        self.assertEqual(error_of(failing_run, fan_world(15, 1), 2, ()), ("TooMany", "runs"))
        self.assertEqual(failing_run(fan_world(15, 1), 1, ())[1], "undecided")
        just = chain_world([1875, 1, 1, 1, 1], nodes=4, blind=False)
        self.assertIn(failing_run(just, 5, (((3, 1), 1), ((0, 1), 0)))[1], ("unlike", "invalid"))

    def test_0_rounds_and_5_rounds(self):
        program = (((0, 0), 0), ((0, 1), 1))
        for rounds in (0, 5):
            self.assertIsNone(failing_run(TWO, rounds, program))
            world = all_due(losses_world(2, 1), rounds)
            run, word, places = failing_run(world, rounds, program)
            self.assertEqual((word, places), ("undecided", ((1, rounds),)))
            word, program_5 = agree(all_due(TWO, 5), 5)
            self.assertIsNone(failing_run(TWO, rounds, program_5))

    def test_what_was_given_is_not_changed(self):
        program = listed(LESSER)
        sights = listed(due_sights(DUE, 1))
        before = copy.deepcopy((program, sights))
        failing_run(DUE, 1, program, sights=sights)
        failing_run(DUE, 1, program[1:], sights=sights)
        self.assertEqual((program, sights), before)

    def test_programs_of_agree_in_the_worlds_of_the_document(self):
        for nodes, most in ((2, 0), (2, 1), (3, 1), (3, 2), (4, 1)):
            world = with_due(stops_world(nodes, most), stops_due(nodes, most))
            word, program = agree(world, most + 1)
            self.assertEqual(word, "program")
            self.assertIsNone(failing_run(world, most + 1, program))
            self.assertEqual(failing_run(world, most + 1, program[1:])[1], "undecided")


# No two of these are the same, and none is a sight of the worlds used here.
DIFFERENT = (None, True, False, 0, 1, -1, "", "0", "1", "True", "None", "(0, 0)", "'", '"', "'\"", "\\", "\n", "[]",
             "[1]", "(", "[", "]", ")", ",", " ", (), ((),), ((), ()), (((),),), (0,), (1,), ("0",), (None,), (True,),
             ("",), ("", ""), ("', '",), ("a", "b"), ("a', 'b",), ("ab",), (False, True), (0, True), (False, 1),
             (True, True), (1, True), (0, 2), (0, -1), (4, 0), (10, 1), (1, 10), (10 ** 30, 0), (1, 0, 1), (1, 0, ()),
             ((0, 0), 0, ((1, True),)), ((0, 0), True, ((1, 0),)), ((0, 0), 7, ((1, 0),)), ((0, 0), 0, ((0, 0),)),
             ((0, False), 0, ((1, 0),)), ((0, 0), 0, ((1, 0), (1, 0))), ((0, 0), 0, ((1, 0),), 0), ((0, 0), 0, 0))


if __name__ == "__main__":
    unittest.main()
