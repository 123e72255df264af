"""Points 2 and 33: chains."""

import copy
import random
import unittest

from alikeruns.agreement import agree, fewest_rounds
from alikeruns.chains import chain_holds
from alikeruns.keen import keen
from alikeruns.programs import failing_run
from alikeruns.runs import count_runs
from alikeruns.sights import due_sights
from alikeruns.worlds import World, hears_world, losses_world, stops_due, stops_world, with_due
from tests.agreeing import Book, chain_as_told
from tests.reference import listed
from tests.values import (CROWDED, JUNK, NOT_INTEGERS, NOT_SEQUENCES, all_due, chain_world, error_of, fan_world,
                          random_world, silent_world, small_cases)

WORLD = all_due(silent_world(2), 1)
# Node 1 does not see that the input of node 0 changes, and then the other way round.
CHAIN = ((((0, 0), (0,)), ((1, 0), (0,)), ((1, 1), (0,))), ((1, 1), (0, 1)))


def changed(chain, place, value):
    """The chain with another run at a place."""
    runs = list(chain[0])
    runs[place] = value
    return (tuple(runs), chain[1])


def relinked(chain, place, value):
    """The chain with another link at a place."""
    links = list(chain[1])
    links[place] = value
    return (chain[0], tuple(links))


class ChainHolds(unittest.TestCase):

    def test_a_chain_by_hand(self):
        self.assertTrue(chain_holds(WORLD, 1, CHAIN))
        self.assertTrue(chain_holds(WORLD, 1, listed(CHAIN)))
        self.assertTrue(chain_holds(WORLD, 2, CHAIN))
        self.assertTrue(chain_holds(WORLD, 1, changed(CHAIN, 1, [[1, 0], [0]])))

    def test_runs_may_be_shorter_and_of_several_lengths(self):
        longer = changed(changed(CHAIN, 0, ((0, 0), (0, 0, 0))), 2, ((1, 1), (0, 0)))
        self.assertTrue(chain_holds(WORLD, 3, longer))
        self.assertFalse(chain_holds(WORLD, 2, longer))
        self.assertFalse(chain_holds(WORLD, 1, longer))
        self.assertFalse(chain_holds(WORLD, 1, changed(CHAIN, 1, ((1, 0), ()))))
        first = changed(changed(changed(CHAIN, 0, ((0, 0), ())), 1, ((1, 0), (0,))), 2, ((1, 1), ()))
        first = (first[0], ((1, 0), (0, 0)))
        self.assertFalse(chain_holds(WORLD, 1, first))
        self.assertTrue(chain_holds(all_due(WORLD, 0), 1, first))
        self.assertTrue(chain_holds(all_due(WORLD, 0), 0, changed(first, 1, ((1, 0), ()))))
        self.assertFalse(chain_holds(all_due(WORLD, 0), 0, first))

    def test_the_inputs_of_the_first_and_the_last_run(self):
        runs, links = CHAIN
        self.assertFalse(chain_holds(WORLD, 1, (runs[:2], links[:1])))
        self.assertFalse(chain_holds(WORLD, 1, (runs[1:], links[1:])))
        self.assertFalse(chain_holds(WORLD, 1, (runs[::-1], links[::-1])))
        self.assertFalse(chain_holds(WORLD, 1, (runs + runs[1:2], links + links[1:])))
        self.assertTrue(chain_holds(WORLD, 1, (runs + runs[2:], links + links[1:])))
        self.assertTrue(chain_holds(WORLD, 1, (runs[:1] + runs, links[:1] + links)))

    def test_one_run_is_never_a_chain_that_holds(self):
        for world in (WORLD, all_due(silent_world(1), 0), all_due(silent_world(1, blind=True), 0)):
            for value in (0, 1):
                run = ((value,) * world.nodes, ())
                self.assertFalse(chain_holds(world, 1, ((run,), ())))
                self.assertFalse(chain_holds(world, 1, [[run], []]))
                self.assertFalse(chain_holds(world, 1, ((run,), ()), sights=()))
                self.assertFalse(chain_holds(world, 1, ((run, run), ((0, 0),))))

    def test_in_a_blind_world_no_chain_holds(self):
        world = all_due(silent_world(2, blind=True), 1)
        self.assertFalse(chain_holds(world, 1, CHAIN))
        self.assertFalse(chain_holds(world, 1, ((((0, 0), (0,)), ((0, 0), (0,))), ((0, 1),))))

    def test_the_sights_of_the_links_are_asked_for(self):
        node_0 = [((0, value), 0, ()) for value in (0, 1)]
        node_1 = [((1, value), 0, ()) for value in (0, 1)]
        plain = silent_world(2)
        self.assertFalse(chain_holds(plain, 1, CHAIN))
        self.assertFalse(chain_holds(plain, 1, CHAIN, sights=()))
        self.assertFalse(chain_holds(plain, 1, CHAIN, sights=node_0))
        self.assertFalse(chain_holds(plain, 1, CHAIN, sights=node_1))
        self.assertTrue(chain_holds(plain, 1, CHAIN, sights=node_0 + node_1))
        self.assertTrue(chain_holds(plain, 1, CHAIN, sights=[node_1[0], node_0[1]]))
        self.assertTrue(chain_holds(plain, 1, CHAIN, sights=listed([node_0[1], node_1[0], node_0[1]])))
        self.assertFalse(chain_holds(plain, 1, CHAIN, sights=[node_1[1], node_0[0]]))
        self.assertFalse(chain_holds(WORLD, 1, CHAIN, sights=()))

    def test_links_that_do_not_hold(self):
        for place in (0, 1):
            for link in ((0, 1), (1, 1)):
                self.assertEqual(chain_holds(WORLD, 1, relinked(CHAIN, place, link)), link == CHAIN[1][place])
            for link in JUNK + ((1, 0), (0, 0), (2, 1), (-1, 1), (1, -1), (1, 2), (0, 2), (1, 1, 1), (1,), (1, True),
                                (True, 1), (False, 1), (0, True), ("1", 1), (None, None), ((1, 1),), 1, "11"):
                self.assertIs(chain_holds(WORLD, 1, relinked(CHAIN, place, link)), False, repr(link)[:80])

    def test_nodes_that_are_not_live_link_nothing(self):
        dead = ((None, ()), (None, 0), 1)
        world = World(2, [(0, (0, 1), False, [dead]), (1, (1,), True, [dead])], 0)
        runs = tuple(((value, value), (0,)) for value in (0, 1))
        for link in ((0, 1), (1, 1), (0, 0), (1, 0)):
            self.assertFalse(chain_holds(world, 1, (runs, (link,))))

    def test_any_value_is_a_chain_or_none(self):
        for value in JUNK + ((), ((), ()), ([], []), (CHAIN,), CHAIN + ((),), (CHAIN[0], ()), (CHAIN[0], CHAIN[1][:1]),
                             (CHAIN[0], CHAIN[1] * 2), (CHAIN[1], CHAIN[0]), (CHAIN[0], "11"), ("abc", CHAIN[1]),
                             (CHAIN[0], None), (None, CHAIN[1]), (0, 0), ("", ""), (CHAIN[0], 1), ((), ((0, 1),)),
                             (((),), ()), ((None,), ()), [CHAIN[0]], ((0, 0, 0), ((1, 1), (0, 1))), world_values()):
            self.assertIs(chain_holds(WORLD, 1, value), False, repr(value)[:80])

    def test_any_value_may_stand_in_place_of_a_run(self):
        for place in range(3):
            for run in JUNK + (((0, 0),), ((0, 0), (0,), ()), ((0, 0), 0), ((0, 0), (1,)), ((0, 0), (-1,)),
                               ((0, 0), (True,)), ((0, 0), (False,)), ((0, 0), (None,)), ((False, 0), (0,)),
                               ((0, 2), (0,)), ((0,), (0,)), ((0, 0, 0), (0,)), ((1, True), (0,)), ((0, 0), (0,) * 6),
                               ((1, 1), ("0",)), ("00", (0,)), ((0, 1), (0,)), ((1, 1), ()), ((0, 0), ())):
                self.assertIs(chain_holds(WORLD, 1, changed(CHAIN, place, run)), False, repr(run)[:80])

    def test_chains_that_are_changed_by_chance(self):
        source = random.Random(3)
        answers = []
        for world, rounds in small_cases():
            word, chain = agree(world, rounds)
            if word == "chain":
                book = Book(world, rounds)
                sights = due_sights(world, rounds)
                for _ in range(20):
                    other = self.altered(source, book, chain)
                    answers.append(chain_holds(world, rounds, other))
                    self.assertIs(answers[-1], chain_as_told(world, rounds, other, sights))
        self.assertGreater(answers.count(True), 50)
        self.assertGreater(answers.count(False), 200)

    def altered(self, source, book, chain):
        place = source.randrange(len(chain[1]))
        kind = source.randrange(4)
        if kind == 0:
            return changed(chain, place, source.choice(book.runs))
        if kind == 1:
            return relinked(chain, place, (source.randrange(book.world.nodes), source.randint(0, book.rounds + 1)))
        if kind == 2:
            inputs, moves = chain[0][place]
            return changed(chain, place, (inputs, moves[:source.randint(0, len(moves))]))
        runs, links = chain
        return (runs[:place + 1] + runs[place:], links[:place + 1] + links[place:])

    def test_wrong_rounds(self):
        for rounds in (-1, 6, 10 ** 30) + NOT_INTEGERS:
            for chain in (CHAIN, None, 0):
                self.assertEqual(error_of(chain_holds, WORLD, rounds, chain), ("BadValue", 2))
                self.assertEqual(error_of(chain_holds, CROWDED, rounds, chain, sights=0), ("BadValue", 2))

    def test_wrong_sights_come_ahead_of_the_chain(self):
        for chain in (CHAIN, None, (), "x", 3):
            for sights in NOT_SEQUENCES:
                if sights is not None:
                    self.assertEqual(error_of(chain_holds, WORLD, 1, chain, sights=sights), ("BadValue", 4))
            for told in JUNK + ((0, 2), (0, True), (2, 0), ((0, 0), 0, ((1, 0),)), (((0, 0), 0, ()), 0, ())):
                self.assertEqual(error_of(chain_holds, WORLD, 1, chain, sights=[(0, 0), told]), ("BadValue", 4))

    def test_30000_runs_and_more(self):
        over = all_due(chain_world([1876, 1], nodes=4, blind=False), 1)
        run = ((0, 0, 0, 0), (0,))
        for chain, sights in ((((run,), ()), None), (None, None), (CHAIN, 0), (CHAIN, [0])):
            self.assertEqual(error_of(chain_holds, over, 1, chain, sights=sights), ("TooMany", "runs"))
            self.assertEqual(error_of(chain_holds, fan_world(15, 1), 2, chain, sights=sights), ("TooMany", "runs"))
        just = all_due(chain_world([1875, 1], nodes=4, blind=False), 1)
        word, chain = agree(just, 1)
        self.assertEqual(word, "chain")
        self.assertTrue(chain_holds(just, 1, chain))
        self.assertEqual(chain_holds(fan_world(15, 0), 2, chain), False)

    def test_what_was_given_is_not_changed(self):
        chain = listed(CHAIN)
        sights = listed(due_sights(WORLD, 1))
        before = copy.deepcopy((chain, sights))
        chain_holds(WORLD, 1, chain, sights=sights)
        self.assertEqual((chain, sights), before)


class ChainsProve(unittest.TestCase):
    """Point 2."""

    def test_chains_that_are_returned_hold(self):
        many = 0
        for world, rounds in small_cases():
            for word, found in (agree(world, rounds), keen(world, rounds)):
                if word == "chain":
                    self.assertIs(chain_holds(world, rounds, found), True)
                    self.assertIs(chain_holds(world, rounds, listed(found)), True)
                    self.assertIs(chain_holds(world, rounds, found, sights=due_sights(world, rounds)[::-1]), True)
                    many += 1
        self.assertGreater(many, 50)

    def test_the_chains_of_fewest_rounds_hold_for_the_sights_of_their_time(self):
        for world in (losses_world(2, 1), stops_world(3, 1), hears_world(2, 0), silent_world(3), losses_world(3, 1)):
            _, _, chains = fewest_rounds(world, 2)
            self.assertGreater(len(chains), 0)
            for rounds, chain in enumerate(chains):
                due = all_due(world, rounds)
                self.assertTrue(chain_holds(due, rounds, chain))
                self.assertTrue(chain_holds(world, rounds, chain, sights=due_sights(due, rounds)))
                self.assertEqual(chain_holds(world, rounds, chain), False)

    def test_every_program_fails_and_in_a_run_of_the_chain_if_nowhere_else(self):
        source = random.Random(9)
        for world, rounds in small_cases():
            word, chain = agree(world, rounds)
            if word == "chain":
                book = Book(world, rounds)
                due = due_sights(world, rounds)
                for _ in range(5):
                    program = tuple((told, source.randint(0, 1)) for told in due)
                    run, kind, places = failing_run(world, rounds, program)
                    failures = book.failures(run, book.values(program), book.due())
                    self.assertIn((kind, places), failures)
                    self.assertTrue(any(book.failures(other, book.values(program), book.due())
                                        for other in chain[0]))

    def test_a_program_exactly_if_no_chain_holds(self):
        for seed in range(100, 160):
            world = random_world(seed, most_moves=4)
            for rounds in range(3):
                if count_runs(world, rounds) <= 100:
                    book = Book(world, rounds)
                    word, _ = agree(world, rounds)
                    self.assertEqual(word == "program", book.fewest(book.due()) is None)

    def test_two_nodes_of_which_one_stops(self):
        world = with_due(stops_world(2, 1), stops_due(2, 1))
        self.assertEqual(agree(world, 2)[0], "program")
        word, chain = agree(with_due(stops_world(2, 1), ((0, 0),)), 2)
        self.assertEqual(word, "chain")
        self.assertFalse(chain_holds(world, 2, chain))


def world_values():
    """All that a world is built from, in place of a chain."""
    return (stops_world(2, 1).states, stops_world(2, 1).states)


if __name__ == "__main__":
    unittest.main()
