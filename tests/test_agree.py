"""Points 1, 31, 32 and 34: agreement."""

import copy
import random
import unittest

from alikeruns.agreement import agree
from alikeruns.chains import chain_holds
from alikeruns.programs import failing_run
from alikeruns.runs import runs
from alikeruns.sights import due_sights
from alikeruns.worlds import World, hears_world, losses_world, stops_due, stops_world, with_due
from tests.agreeing import Book, chain_as_told
from tests.reference import listed
from tests.values import (CROWDED, JUNK, NOT_INTEGERS, NOT_SEQUENCES, all_due, chain_world, error_of, fan_world,
                          is_plain, silent_world, small_cases)


class Agree(unittest.TestCase):

    def check(self, book, asked, answer):
        """The answer to the question for a program that decides at the asked sights."""
        world, rounds = book.world, book.rounds
        self.assertTrue(is_plain(answer))
        self.assertEqual(len(answer), 2)
        word, found = answer
        few = book.fewest(asked)
        if few is None:
            self.assertEqual(word, "program")
            self.assertTrue(set(book.values(found)) <= set(book.sights))
            self.assertEqual(len(book.values(found)), len(found))
            self.assertTrue(book.works(book.values(found), asked))
        else:
            sights = [book.sights[text] for text in asked]
            self.assertEqual(word, "chain")
            self.assertTrue(chain_as_told(world, rounds, found, sights))
            self.assertEqual(len(found[0]), few)
        return word

    def test_the_example_of_the_document(self):
        world = stops_world(3, 1)
        self.assertEqual(agree(with_due(world, ((0, 1), (1, 1), (2, 1), (4, 1))), 1)[0], "chain")
        self.assertEqual(agree(with_due(world, ((0, 1), (1, 2), (2, 2), (4, 2))), 2)[0], "program")

    def test_the_chain_of_one_round_in_which_one_stops(self):
        world = all_due(stops_world(3, 1), 1)
        word, chain = agree(world, 1)
        self.assertEqual(word, "chain")
        self.assertEqual((len(chain[0]), len(chain[1])), (7, 6))
        self.assertEqual((chain[0][0][0], chain[0][-1][0]), ((0, 0, 0), (1, 1, 1)))
        self.assertTrue(chain_as_told(world, 1, chain, due_sights(world, 1)))

    def test_two_nodes_that_decide_at_once(self):
        word, chain = agree(all_due(losses_world(2, 0), 0), 0)
        self.assertEqual(word, "chain")
        self.assertEqual(chain[0][0], ((0, 0), ()))
        self.assertEqual(chain[0][2], ((1, 1), ()))
        self.assertIn((chain[0][1], chain[1]), ((((0, 1), ()), ((0, 0), (1, 0))), (((1, 0), ()), ((1, 0), (0, 0)))))

    def test_one_node_decides_its_input(self):
        for rounds in range(6):
            world = all_due(losses_world(1, 0), rounds)
            word, program = agree(world, rounds)
            self.assertEqual(word, "program")
            self.assertEqual(sorted(told for told, _ in program), sorted(due_sights(world, rounds)))
            for told, value in program:
                while len(told) == 3:
                    told = told[0]
                self.assertEqual(value, told[1])

    def test_messages_that_may_be_lost(self):
        for rounds in range(5):
            word, chain = agree(all_due(losses_world(2, 1), rounds), rounds)
            self.assertEqual((word, len(chain[0])), ("chain", 3 ** rounds + 2))
            self.assertEqual(agree(all_due(losses_world(2, 2), rounds), rounds)[0], "chain")
            self.assertEqual(len(agree(all_due(losses_world(2, 2), rounds), rounds)[1][0]), 3)
        self.assertEqual(len(agree(all_due(losses_world(2, 1), 5), 5)[1][0]), 245)

    def test_without_any_loss_and_with_every_loss(self):
        for rounds in range(6):
            word = "program" if rounds else "chain"
            self.assertEqual(agree(all_due(losses_world(3, 0), rounds), rounds)[0], word)
            for nodes in (2, 3, 4):
                word, chain = agree(all_due(silent_world(nodes), rounds), rounds)
                self.assertEqual((word, len(chain[0])), ("chain", 3))
            self.assertEqual(agree(all_due(silent_world(1), rounds), rounds)[0], "program")

    def test_in_a_blind_world_0_can_be_decided(self):
        for world in (stops_world(3, 3, blind=True), losses_world(3, 1, blind=True), silent_world(4, blind=True)):
            for rounds in (0, 1):
                due = all_due(world, rounds)
                word, program = agree(due, rounds)
                self.assertEqual(word, "program")
                self.assertEqual({value for _, value in program}, {0})
                self.assertIsNone(failing_run(due, rounds, program))

    def test_hints_tell_the_nodes_apart(self):
        # The hint tells what the first input is, or the move says nothing.
        def world(hints):
            moves = [(((), ()), (hint, hint), 0) for hint in hints]
            return all_due(World(2, [(0, (0, 1), False, moves)], 0), 1)
        self.assertEqual(agree(world((3,)), 1)[0], "chain")
        self.assertEqual(agree(world((3, 4)), 1)[0], "chain")
        heard = [(((1,), (0,)), (hint, 7), 0) for hint in (-1000, 1000)]
        self.assertEqual(agree(all_due(World(2, [(0, (0, 1), False, heard)], 0), 1), 1)[0], "program")

    def test_all_small_cases_with_the_sights_that_are_due(self):
        words = []
        for world, rounds in small_cases():
            book = Book(world, rounds)
            words.append(self.check(book, book.due(), agree(world, rounds)))
        self.assertGreater(words.count("chain"), 25)
        self.assertGreater(words.count("program"), 100)

    def test_sights_by_chance(self):
        source = random.Random(5)
        words = []
        for world, rounds in small_cases() + [(losses_world(2, 1), 3), (losses_world(3, 1), 1), (hears_world(3, 1), 1),
                                              (stops_world(2, 2), 3), (stops_world(3, 2), 1), (hears_world(2, 0), 2)]:
            book = Book(world, rounds)
            for late in (False, True, True, True):
                texts = [text for text in sorted(book.sights) if not late or len(book.sights[text]) == 3]
                asked = source.sample(texts, source.randint(0, len(texts)))
                sights = tuple(book.sights[text] for text in asked)
                words.append(self.check(book, asked, agree(world, rounds, sights=sights)))
        self.assertGreater(words.count("chain"), 100)
        self.assertGreater(words.count("program"), 250)

    def test_a_program_exactly_if_some_values_for_the_sights_are_right(self):
        source = random.Random(6)
        answers = []
        for world, rounds in small_cases():
            book = Book(world, rounds)
            texts = sorted(book.sights)
            for _ in range(2):
                asked = source.sample(texts, min(len(texts), source.randint(1, 6)))
                word, _ = agree(world, rounds, sights=[book.sights[text] for text in asked])
                self.assertEqual(word == "program", book.some_works(asked))
                answers.append(word)
        self.assertGreater(answers.count("chain"), 30)

    def test_sights_in_any_order_twice_and_as_lists(self):
        for world, rounds in ((all_due(stops_world(3, 1), 1), 1), (with_due(stops_world(2, 1), stops_due(2, 1)), 2),
                              (all_due(losses_world(2, 1), 2), 2)):
            word, found = agree(world, rounds)
            due = due_sights(world, rounds)
            for sights in (due, due[::-1], due + due[:3], listed(due), listed(due[::-1]) + [due[0]], list(due),
                           tuple(listed(due))):
                answer = agree(world, rounds, sights=sights)
                self.assertEqual(answer[0], word)
                self.assertTrue(is_plain(answer))
                if word == "chain":
                    self.assertEqual(len(answer[1][0]), len(found[0]))
                    self.assertTrue(chain_holds(world, rounds, answer[1]))
                else:
                    self.assertEqual(sorted(answer[1], key=repr), sorted(found, key=repr))

    def test_no_sights_at_all(self):
        for world in (stops_world(3, 1), losses_world(2, 2), silent_world(2), hears_world(3, 0)):
            for sights in ((), [], None):
                word, program = agree(world, 1, sights=sights)
                self.assertEqual(word, "program")
                self.assertIsNone(failing_run(world, 1, program))
        world = all_due(silent_world(2), 0)
        self.assertEqual(agree(world, 0)[0], "chain")
        self.assertEqual(agree(world, 0, sights=())[0], "program")
        self.assertEqual(agree(world, 0, sights=None)[0], "chain")

    def test_decisions_of_nodes_that_stop_later_count(self):
        # Node 0 has decided at time 0; it may then stop unheard, and node 1
        # has to decide alone at time 1, when only itself is live.
        gone = [(((1,), (0,)), (0, 0), 0), ((None, ()), (None, 0), 1)]
        world = World(2, [(0, (0, 1), False, gone), (1, (1,), False, [((None, ()), (None, 0), 1)])], 0)
        alone = [((1, value), 0, ()) for value in (0, 1)]
        self.assertEqual(agree(world, 1, sights=[(0, 0), (0, 1)] + alone)[0], "chain")
        self.assertEqual(agree(world, 1, sights=alone)[0], "program")
        self.assertEqual(agree(world, 1, sights=[(0, 0), (0, 1)])[0], "program")

    def test_30000_runs_and_more(self):
        self.assertEqual(agree(fan_world(15, 0), 2)[0], "program")
        self.assertEqual(len(agree(fan_world(15, 0), 2)[1]), 15)
        just = chain_world([1875, 1, 1, 1, 1], nodes=4, blind=False)
        self.assertEqual(agree(all_due(just, 1), 5)[0], "chain")
        self.assertEqual(error_of(agree, fan_world(15, 1), 2), ("TooMany", "runs"))
        self.assertEqual(agree(fan_world(15, 1), 1)[0], "program")
        over = chain_world([1876, 1], nodes=4, blind=False)
        self.assertEqual(error_of(agree, over, 1), ("TooMany", "runs"))
        self.assertEqual(agree(over, 0), ("program", ()))
        for sights in ((), [(9, 9)], "x", 7):
            self.assertEqual(error_of(agree, over, 1, sights=sights), ("TooMany", "runs"))

    def test_wrong_rounds(self):
        for rounds in (-1, 6, 10 ** 30) + NOT_INTEGERS:
            self.assertEqual(error_of(agree, stops_world(2, 1), rounds), ("BadValue", 2))
            self.assertEqual(error_of(agree, CROWDED, rounds, sights=0), ("BadValue", 2))
            self.assertEqual(error_of(agree, CROWDED, rounds, sights=[0]), ("BadValue", 2))

    def test_wrong_sights(self):
        world = stops_world(2, 1)
        for sights in NOT_SEQUENCES:
            wanted = None if sights is None else ("BadValue", 3)
            self.assertEqual(error_of(agree, world, 1, sights=sights), wanted, repr(sights)[:80])
        for told in JUNK + WRONG_SIGHTS:
            for sights in ([told], (told,), [(0, 0), told], [told, (0, 0)]):
                self.assertEqual(error_of(agree, world, 1, sights=sights), ("BadValue", 3), repr(sights)[:80])

    def test_sights_of_a_later_time(self):
        world = stops_world(2, 1)
        late = ((0, 0), 0, ())
        self.assertEqual(error_of(agree, world, 0, sights=[late]), ("BadValue", 3))
        self.assertEqual(agree(world, 1, sights=[late])[0], "program")
        self.assertEqual(error_of(agree, world, 1, sights=[(late, 0, ())]), ("BadValue", 3))
        self.assertEqual(agree(world, 2, sights=[(late, 0, ())])[0], "program")
        self.assertEqual(error_of(agree, stops_world(2, 1, blind=True), 0, sights=[(0, 1)]), ("BadValue", 3))

    def test_what_was_given_is_not_changed(self):
        world = all_due(stops_world(2, 1), 1)
        sights = listed(due_sights(world, 1)) + [[0, 1]]
        before = copy.deepcopy(sights)
        states = copy.deepcopy(world.states)
        agree(world, 1, sights=sights)
        self.assertEqual((sights, world.states), (before, states))

    def test_what_is_returned_does_not_hang_on_what_was_given(self):
        world = all_due(losses_world(2, 0), 1)
        sights = listed(due_sights(world, 1))
        answer = agree(world, 1, sights=sights)
        kept = copy.deepcopy(answer)
        sights[0][0][1] = 7
        sights.clear()
        self.assertEqual(answer, kept)

    def test_every_sight_that_occurs_can_be_asked_for(self):
        world = stops_world(2, 2)
        book = Book(world, 2)
        for told in book.sights.values():
            self.assertEqual(agree(world, 2, sights=[told])[0], "program")
            self.assertEqual(agree(world, 2, sights=[listed(told)])[0], "program")
        self.assertEqual(len(runs(world, 2)), len([run for run in book.runs if len(run[1]) == 2]))


# Values that look like sights of stops_world(2, 1) and are none within one round.
WRONG_SIGHTS = (
    (0, 2), (2, 0), (-1, 0), (0, -1), (0, True), (False, 0), (0,), (0, 0, 0), (0, None), ("0", 0), "00", ((0, 0),),
    ((0, 0), 0), ((0, 0), 1, ()), ((0, 0), False, ()), ((0, 0), None, ()), ((0, 0), 0, None), ((0, 0), 0, 0),
    ((0, 0), 0, ((0, 0),)), ((0, 0), 0, ((1, True),)), ((0, 0), 0, ((1, 0), (1, 0))), ((0, 0), 0, (1, 0)),
    ((0, False), 0, ((1, 0),)), ((0, 0), 0, (), ()), ((0, 2), 0, ()), (0, 0, ()), (((0, 0), 0, ()), 0, ()),
    ((0, 0), 0, ""), ((0, 0), "0", ()), ("00", 0, ()), ([], 0, []), (None, 0, ()), (None, 0, (None,)),
    ((0, 0), 0, (((1, 0), 0, ()),)), ((0, 0), 0, [[]]), ((0, 0), 10 ** 30, ()), (0, 10 ** 30))


if __name__ == "__main__":
    unittest.main()
