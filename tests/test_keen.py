"""Points 5, 38 and 39: programs that no program beats."""

import copy
import random
import unittest

from alikeruns.agreement import agree
from alikeruns.chains import chain_holds
from alikeruns.keen import beater, keen
from alikeruns.programs import failing_run
from alikeruns.sights import due_sights
from alikeruns.worlds import World, hears_world, losses_world, stops_due, stops_world, with_due
from tests.agreeing import Book
from tests.reference import listed
from tests.values import (CROWDED, JUNK, NOT_INTEGERS, NOT_SEQUENCES, all_due, chain_world, error_of, fan_world,
                          is_plain, silent_world, small_cases)

TWO = losses_world(2, 0)
HEARD = tuple(((node, mine), 0, ((1 - node, yours),)) for node in (0, 1) for mine in (0, 1) for yours in (0, 1))
LESSER = tuple((told, min(told[0][1], told[2][0][1])) for told in HEARD)


def tiny_cases():
    """Worlds in which few enough sights occur to try all programs."""
    heard, unheard = ((None, (0,)), (None, 0), 1), ((None, ()), (None, 0), 1)
    return ((losses_world(1, 0), 2), (silent_world(2), 0), (silent_world(2), 1), (silent_world(3), 0),
            (stops_world(2, 1), 0), (stops_world(2, 1, blind=True), 1), (losses_world(2, 2, blind=True), 1),
            (losses_world(2, 0, blind=True), 2),
            (World(2, [(0, (0, 1), False, [heard]), (1, (1,), False, [unheard])], 0), 1),
            (World(2, [(0, (0, 1), False, [unheard]), (1, (1,), False, [unheard])], 0), 1),
            (World(2, [(0, (0, 1), False, [heard, unheard]), (1, (1,), False, [unheard])], 0, blind=True), 2),
            (World(1, [(0, (0,), False, [(((),), (hint,), 0) for hint in (0, 1)])], 0), 1))


class Keen(unittest.TestCase):

    def test_who_hears_0_decides_first(self):
        word, program = keen(TWO, 1)
        self.assertEqual(word, "program")
        self.assertIsNone(failing_run(TWO, 1, program))
        self.assertIsNone(failing_run(TWO, 1, program, sights=HEARD))
        # At time 0 one value can be decided by each node, or both by one of them.
        first = [told for told, _ in program if len(told) == 2]
        self.assertEqual(len(first), 2)

    def test_one_node_decides_at_once(self):
        for rounds in range(6):
            world = all_due(losses_world(1, 0), rounds)
            word, program = keen(world, rounds)
            self.assertEqual(word, "program")
            self.assertEqual(Book(world, rounds).decided(((1,), (0,) * rounds), {repr(a): b for a, b in program}),
                             {0: (0, 1)})
            self.assertIsNone(beater(world, rounds, program))

    def test_in_a_blind_world_all_decide_at_once(self):
        for world in (stops_world(3, 1, blind=True), losses_world(2, 2, blind=True), silent_world(4, blind=True)):
            word, program = keen(world, 1)
            self.assertEqual(word, "program")
            self.assertLessEqual({((node, 0), 0) for node in range(world.nodes)}, set(program))

    def test_all_small_cases(self):
        source = random.Random(2)
        words = []
        for world, rounds in small_cases():
            book = Book(world, rounds)
            texts = sorted(book.sights)
            asked = source.sample(texts, source.randint(0, min(8, len(texts))))
            given = [book.sights[text] for text in asked]
            for texts, (word, found) in ((book.due(), keen(world, rounds)),
                                         (asked, keen(world, rounds, sights=given))):
                words.append(word)
                self.assertTrue(is_plain(found))
                few = book.fewest(texts)
                self.assertEqual(word, "program" if few is None else "chain")
                if word == "chain":
                    self.assertEqual(len(found[0]), few)
                    self.assertTrue(chain_holds(world, rounds, found, sights=[book.sights[text] for text in texts]))
                else:
                    values = book.values(found)
                    self.assertEqual(len(values), len(found))
                    self.assertTrue(set(values) <= set(book.sights))
                    self.assertTrue(book.works(values, texts))
                    self.assertEqual(book.could_be_added(values), [])
                    self.assertIsNone(beater(world, rounds, found))
        self.assertGreater(words.count("chain"), 40)
        self.assertGreater(words.count("program"), 200)

    def test_no_program_at_all_beats_it(self):
        for world, rounds in tiny_cases():
            book = Book(world, rounds)
            self.assertLessEqual(len(book.sights), 8)
            word, program = keen(world, rounds)
            values = book.values(program)
            self.assertEqual(word, "program")
            for other in book.all_programs():
                self.assertFalse(book.beats(other, values))

    def test_it_decides_nowhere_later_than_a_right_program(self):
        many = 0
        for world, rounds in small_cases():
            word, program = agree(world, rounds)
            if word == "program" and program:
                book = Book(world, rounds)
                _, sooner = keen(world, rounds, sights=[told for told, _ in program])
                mine, yours = book.values(sooner), book.values(program)
                for run in book.runs:
                    for node, (time, _) in book.decided(run, yours).items():
                        self.assertLessEqual(book.decided(run, mine)[node][0], time)
                many += 1
        self.assertGreater(many, 30)

    def test_sights_in_any_order_twice_and_as_lists(self):
        for sights in (HEARD, HEARD[::-1], listed(HEARD), list(HEARD) + [HEARD[0]]):
            word, program = keen(TWO, 1, sights=sights)
            self.assertEqual(word, "program")
            self.assertIsNone(failing_run(TWO, 1, program, sights=HEARD))
            self.assertIsNone(beater(TWO, 1, program))
            self.assertTrue(is_plain(program))
        for sights in ((), [], None):
            word, program = keen(TWO, 1, sights=sights)
            self.assertIsNone(beater(TWO, 1, program))

    def test_the_stops_worlds(self):
        for nodes, most in ((2, 0), (2, 1), (3, 1), (3, 2), (4, 1)):
            world = with_due(stops_world(nodes, most), stops_due(nodes, most))
            word, program = keen(world, most + 1)
            self.assertEqual(word, "program")
            self.assertIsNone(failing_run(world, most + 1, program))
            self.assertIsNone(beater(world, most + 1, program))

    def test_0_rounds_and_5_rounds(self):
        for rounds in (0, 5):
            for world in (all_due(losses_world(2, 1), rounds), all_due(silent_world(3), rounds)):
                word, chain = keen(world, rounds)
                self.assertEqual((word, chain), agree(world, rounds))
                self.assertEqual(word, "chain")
            word, program = keen(losses_world(2, 1), rounds)
            self.assertIsNone(beater(losses_world(2, 1), rounds, program))

    def test_wrong_rounds(self):
        for rounds in (-1, 6, 10 ** 30) + NOT_INTEGERS:
            for sights in (None, 0, [0]):
                self.assertEqual(error_of(keen, TWO, rounds, sights=sights), ("BadValue", 2))
                self.assertEqual(error_of(keen, CROWDED, rounds, sights=sights), ("BadValue", 2))

    def test_wrong_sights(self):
        for sights in NOT_SEQUENCES:
            if sights is not None:
                self.assertEqual(error_of(keen, TWO, 1, sights=sights), ("BadValue", 3))
        for told in JUNK + ((0, 2), (0, True), (2, 0), ((0, 0), 0, ()), (HEARD[0], 0, (HEARD[4],))):
            self.assertEqual(error_of(keen, TWO, 1, sights=[told]), ("BadValue", 3), repr(told)[:80])
            self.assertEqual(error_of(keen, TWO, 1, sights=(HEARD[0], told)), ("BadValue", 3))

    def test_30000_runs_and_more(self):
        self.assertEqual(keen(fan_world(15, 0), 2)[0], "program")
        just = chain_world([1875, 1, 1, 1, 1], nodes=4, blind=False)
        word, program = keen(just, 5)
        self.assertEqual(word, "program")
        self.assertEqual(keen(all_due(just, 5), 5)[0], "chain")
        for sights in (None, 0, [0]):
            self.assertEqual(error_of(keen, fan_world(15, 1), 2, sights=sights), ("TooMany", "runs"))
        self.assertEqual(keen(fan_world(15, 1), 1)[0], "program")

    def test_what_was_given_is_not_changed(self):
        sights = listed(HEARD)
        before = copy.deepcopy(sights)
        keen(TWO, 1, sights=sights)
        self.assertEqual(sights, before)


class Beater(unittest.TestCase):

    def test_nothing_decided_is_beaten(self):
        for world, rounds in ((TWO, 1), (silent_world(2), 0), (stops_world(3, 1), 1), (losses_world(1, 0), 5)):
            book = Book(world, rounds)
            for program in ((), []):
                better = beater(world, rounds, program)
                self.assertTrue(is_plain(better))
                self.assertTrue(book.beats(book.values(better), {}))

    def test_a_program_that_waits_is_beaten(self):
        better = beater(TWO, 1, LESSER)
        book = Book(TWO, 1)
        self.assertTrue(book.beats(book.values(better), book.values(LESSER)))
        self.assertTrue(any(len(told) == 2 for told, _ in better))
        self.assertIsNotNone(beater(TWO, 1, listed(LESSER)))
        self.assertIsNotNone(beater(TWO, 2, LESSER))
        self.assertIsNotNone(beater(TWO, 2, agree(all_due(TWO, 2), 2)[1]))

    def test_programs_that_nobody_beats(self):
        # Nodes that see a 0 decide 0 at once, others when they have heard all.
        zeros = (((0, 0), 0), ((1, 0), 0)) + LESSER
        self.assertIsNone(beater(TWO, 1, zeros))
        self.assertIsNone(beater(TWO, 1, listed(zeros[::-1])))
        self.assertIsNone(beater(TWO, 1, (((0, 0), 0), ((0, 1), 1)) + tuple(
            (told, told[2][0][1]) for told in HEARD if told[0][0] == 1)))
        self.assertIsNone(beater(losses_world(1, 0), 3, (((0, 0), 0), ((0, 1), 1))))
        self.assertIsNone(beater(stops_world(2, 1, blind=True), 3, (((0, 0), 0), ((1, 0), 0))))

    def test_sights_behind_a_decision_do_not_beat(self):
        zeros = (((0, 0), 0), ((1, 0), 0)) + tuple((told, value) for told, value in LESSER if told[0][1] == 1)
        self.assertIsNone(beater(TWO, 1, zeros))
        self.assertIsNone(beater(TWO, 2, zeros))
        self.assertIsNone(beater(TWO, 3, zeros))
        self.assertIsNone(beater(TWO, 1, zeros + tuple((told, 1) for told in HEARD[:2])))

    def test_all_small_cases(self):
        source = random.Random(7)
        answers = []
        for world, rounds in small_cases():
            book = Book(world, rounds)
            texts = sorted(book.sights)
            asked = source.sample(texts, source.randint(0, min(6, len(texts))))
            word, program = agree(world, rounds, sights=[book.sights[text] for text in asked])
            if word == "program":
                better = beater(world, rounds, program)
                values = book.values(program)
                if better is None:
                    self.assertEqual(book.could_be_added(values), [])
                else:
                    self.assertTrue(is_plain(better))
                    self.assertTrue(set(book.values(better)) <= set(book.sights))
                    self.assertEqual(len(book.values(better)), len(better))
                    self.assertTrue(book.beats(book.values(better), values))
                answers.append(better is None)
        self.assertGreater(answers.count(True), 20)
        self.assertGreater(answers.count(False), 40)

    def test_every_right_program_of_tiny_worlds(self):
        for world, rounds in tiny_cases():
            book = Book(world, rounds)
            right = [values for values in book.all_programs() if book.works(values, ())]
            for values in right[::max(1, len(right) // 12)]:
                program = tuple((book.sights[text], value) for text, value in values.items())
                better = beater(world, rounds, program)
                self.assertEqual(better is None, not any(book.beats(other, values) for other in right))
                if better is not None:
                    self.assertTrue(book.beats(book.values(better), values))

    def test_step_by_step_until_nobody_beats_it(self):
        for world, rounds in ((TWO, 1), (stops_world(2, 1), 2), (stops_world(3, 1), 1), (losses_world(2, 1), 2),
                              (hears_world(2, 0), 2)):
            book = Book(world, rounds)
            program = ()
            for _ in range(len(book.sights) + 1):
                better = beater(world, rounds, program)
                if better is None:
                    break
                self.assertTrue(book.beats(book.values(better), book.values(program)))
                self.assertIsNone(failing_run(world, rounds, better))
                program = better
            self.assertIsNone(better)
            self.assertEqual(book.could_be_added(book.values(program)), [])

    def test_keen_programs_are_left_as_they_are(self):
        for world, rounds in small_cases():
            word, program = keen(world, rounds, sights=())
            self.assertEqual(word, "program")
            self.assertIsNone(beater(world, rounds, program))
            self.assertIsNone(beater(world, rounds, listed(program)[::-1]))

    def test_sights_that_do_not_occur_do_not_matter(self):
        strange = (("x", 1), (None, 0), ((0, True), 1), (((0, 0), 7, ()), 0))
        zeros = (((0, 0), 0), ((1, 0), 0)) + LESSER
        self.assertIsNone(beater(TWO, 1, zeros + strange))
        better = beater(TWO, 1, strange + LESSER)
        self.assertTrue({repr(told) for told, _ in better} <= set(Book(TWO, 1).sights))

    def test_wrong_programs(self):
        for program in NOT_SEQUENCES + ((None,), ("01",), ((),), (((0, 0),),), (((0, 0), 0, 0),), (((0, 0), 2),),
                                        (((0, 0), -1),), (((0, 0), True),), (((0, 0), False),), (((0, 0), None),),
                                        (((0, 0), 0), ((0, 0), 0)), (((0, 0), 0), ([0, 0], 0)), (("x", 0), ("x", 1)),
                                        ((None, 0), (None, 0)), (([], 0), ((), 0))):
            self.assertEqual(error_of(beater, TWO, 1, program), ("BadValue", 3), repr(program)[:80])

    def test_programs_that_are_not_right(self):
        for program in ((((0, 0), 1),), (((0, 0), 0), ((1, 1), 1)), LESSER[:1] + ((HEARD[1], 1), (HEARD[6], 0)),
                        tuple((told, 1 - value) for told, value in LESSER), tuple((told, 0) for told in HEARD)):
            self.assertEqual(error_of(beater, TWO, 1, program), ("BadValue", 3))
            self.assertEqual(error_of(beater, TWO, 1, listed(program)), ("BadValue", 3))
        self.assertEqual(error_of(beater, TWO, 0, tuple((told, 0) for told in HEARD)), None)

    def test_a_right_program_need_not_decide_what_is_due(self):
        world = all_due(silent_world(2), 0)
        self.assertEqual(agree(world, 0)[0], "chain")
        better = beater(world, 0, ())
        self.assertEqual(len(better), 2)
        self.assertIsNone(beater(world, 0, better))

    def test_wrong_rounds_and_too_many_runs(self):
        for program in ((), None, (((0, 0), 1),)):
            for rounds in (-1, 6, 10 ** 30) + NOT_INTEGERS:
                self.assertEqual(error_of(beater, TWO, rounds, program), ("BadValue", 2))
                self.assertEqual(error_of(beater, CROWDED, rounds, program), ("BadValue", 2))
            self.assertEqual(error_of(beater, fan_world(15, 1), 2, program), ("TooMany", "runs"))
        better = beater(fan_world(15, 0), 2, ())
        self.assertIn(((0, 0), 0), better)
        self.assertIsNone(beater(fan_world(15, 0), 2, better))
        just = chain_world([1875, 1, 1, 1, 1], nodes=4, blind=False)
        self.assertIsNone(beater(just, 5, beater(just, 5, ())))

    def test_0_rounds(self):
        better = beater(silent_world(2), 0, (((0, 0), 0),))
        book = Book(silent_world(2), 0)
        self.assertTrue(book.beats(book.values(better), {"(0, 0)": 0}))
        self.assertIsNone(beater(silent_world(2), 0, (((0, 0), 0), ((0, 1), 1))))
        self.assertIsNone(beater(silent_world(2), 0, (((0, 0), 0), ((1, 0), 0))))

    def test_what_was_given_is_not_changed(self):
        program = listed(LESSER)
        before = copy.deepcopy(program)
        beater(TWO, 1, program)
        self.assertEqual(program, before)

    def test_a_chain_of_no_program(self):
        world = all_due(silent_world(2), 1)
        self.assertEqual(keen(world, 1), agree(world, 1))
        self.assertEqual(keen(world, 1, sights=due_sights(world, 1)[:2])[0], "program")


if __name__ == "__main__":
    unittest.main()
