"""Points 4, 11, 36 and 37: the fewest rounds, and the stops world."""

import unittest

from alikeruns.agreement import agree, fewest_rounds
from alikeruns.chains import chain_holds
from alikeruns.keen import keen
from alikeruns.programs import failing_run
from alikeruns.runs import count_runs
from alikeruns.sights import due_sights
from alikeruns.worlds import World, hears_world, losses_world, stops_due, stops_world, with_due
from tests.agreeing import Book
from tests.values import (CROWDED, NOT_INTEGERS, all_due, chain_world, error_of, fan_world, is_plain, random_world,
                          silent_world)


class FewestRounds(unittest.TestCase):

    def check(self, world, most):
        """The answer, compared with what agree says for each number of rounds."""
        answer = fewest_rounds(world, most)
        self.assertTrue(is_plain(answer))
        first, program, chains = answer
        for rounds, chain in enumerate(chains):
            due = all_due(world, rounds)
            sights = due_sights(due, rounds)
            self.assertTrue(chain_holds(world, rounds, chain, sights=sights))
            self.assertEqual(len(chain[0]), len(agree(due, rounds)[1][0]))
        if first is None:
            self.assertIsNone(program)
            self.assertEqual(len(chains), most + 1)
        else:
            self.assertEqual(len(chains), first)
            self.assertLessEqual(first, most)
            self.assertIsNone(failing_run(all_due(world, first), first, program))
        return first

    def test_who_hears_all_decides_in_one_round(self):
        for nodes in (2, 3, 4):
            self.assertEqual(self.check(losses_world(nodes, 0), 4), 1)
            self.assertEqual(self.check(hears_world(nodes, nodes - 1), 1), 1)

    def test_one_node_and_blind_worlds_need_no_round(self):
        for world in (losses_world(1, 0), stops_world(1, 1), stops_world(3, 3, blind=True),
                      losses_world(3, 6, blind=True), silent_world(4, blind=True), hears_world(4, 2, blind=True)):
            for most in range(5):
                first, program, chains = fewest_rounds(world, most)
                self.assertEqual((first, chains), (0, ()))
                self.assertEqual(sorted(told for told, _ in program), sorted(due_sights(all_due(world, 0), 0)))

    def test_never(self):
        for most in range(5):
            self.assertIsNone(self.check(losses_world(2, 1), most))
            self.assertIsNone(self.check(losses_world(2, 2), most))
            self.assertIsNone(self.check(hears_world(2, 0), most))
            self.assertIsNone(self.check(silent_world(3), most))
        first, program, chains = fewest_rounds(losses_world(2, 1), 4)
        self.assertEqual([len(chain[0]) for chain in chains], [3, 5, 11, 29, 83])
        self.assertEqual([len(chain[0]) for chain in fewest_rounds(losses_world(2, 2), 4)[2]], [3] * 5)

    def test_most_0_and_4(self):
        self.assertEqual(fewest_rounds(losses_world(1, 0), 0), (0, (((0, 0), 0), ((0, 1), 1)), ()))
        first, program, chains = fewest_rounds(losses_world(2, 0), 0)
        self.assertEqual((first, program, len(chains)), (None, None, 1))
        self.assertEqual(len(chains[0][0]), 3)
        self.assertEqual(self.check(stops_world(2, 1), 4), 1)
        self.assertEqual(self.check(stops_world(3, 1), 4), 2)

    def test_all_sights_of_the_time_whether_due_or_not(self):
        for dues in ((), ((0, 0),), ((0, 5),), ((0, 1), (1, 1))):
            world = with_due(stops_world(3, 1), dues)
            self.assertEqual(fewest_rounds(world, 3), fewest_rounds(stops_world(3, 1), 3))

    def test_where_nobody_is_live_there_is_nothing_to_decide(self):
        gone = ((None, None), (None, None), 1)
        world = World(2, [(0, (0, 1), False, [gone]), (1, (), False, [gone])], 0)
        first, program, chains = fewest_rounds(world, 3)
        self.assertEqual((first, program, len(chains)), (1, (), 1))
        self.assertEqual(fewest_rounds(World(2, world.states, 1), 0), (0, (), ()))

    def test_for_every_larger_number_there_is_a_program(self):
        worlds = [stops_world(2, 1), stops_world(3, 1), losses_world(3, 0), losses_world(3, 1)]
        many = 0
        for world in worlds + [random_world(seed) for seed in range(60)]:
            first, _, _ = fewest_rounds(world, 2) if count_runs(world, 2) <= 5000 else (None, None, ())
            for rounds in range(3):
                if count_runs(world, rounds) <= 5000 and first is not None:
                    word = agree(all_due(world, rounds), rounds)[0]
                    self.assertEqual(word, "chain" if rounds < first else "program")
                    many += 1
        self.assertGreater(many, 100)

    def test_random_worlds(self):
        answers = []
        for seed in range(80):
            world = random_world(seed)
            most = max(rounds for rounds in range(3) if count_runs(world, rounds) <= 100)
            first = self.check(world, most)
            wanted = [rounds for rounds in range(most + 1) if self.decides(world, rounds)]
            self.assertEqual(first, wanted[0] if wanted else None)
            answers.append(first)
        for answer in (None, 0, 1):
            self.assertGreater(answers.count(answer), 10)

    def decides(self, world, rounds):
        book = Book(world, rounds)
        last = [text for run in book.runs if len(run[1]) == rounds
                for (_, time), text in book.seen[run].items() if time == rounds]
        return book.fewest(last) is None

    def test_wrong_most(self):
        for most in (-1, 5, 6, 10 ** 30, -10 ** 30) + NOT_INTEGERS:
            self.assertEqual(error_of(fewest_rounds, stops_world(2, 1), most), ("BadValue", 2))
            self.assertEqual(error_of(fewest_rounds, CROWDED, most), ("BadValue", 2))
            self.assertEqual(error_of(fewest_rounds, losses_world(1, 0), most), ("BadValue", 2))

    def test_too_many_runs_only_if_it_comes_to_them(self):
        over = chain_world([1876, 1], nodes=4, blind=False)
        self.assertEqual(fewest_rounds(over, 0)[0], None)
        for most in range(1, 5):
            self.assertEqual(error_of(fewest_rounds, over, most), ("TooMany", "runs"))
            self.assertEqual(fewest_rounds(chain_world([1876, 1], nodes=4), most)[0], 0)
            self.assertEqual(fewest_rounds(fan_world(15, 1), most)[0], 0)
            self.assertEqual(fewest_rounds(losses_world(3, 0), most)[0], 1)
        self.assertEqual(len(fewest_rounds(chain_world([1875, 1], nodes=4, blind=False), 4)[2]), 5)
        self.assertEqual(fewest_rounds(losses_world(4, 1), 2)[0], 2)
        self.assertEqual(error_of(fewest_rounds, CROWDED, 1), None)
        self.assertEqual(error_of(fewest_rounds, CROWDED, 2), ("TooMany", "runs"))


class Stops(unittest.TestCase):
    """Points 11 and 37."""

    CASES = ((2, 0), (3, 0), (3, 1), (4, 0), (4, 1), (4, 2))

    def test_all_live_nodes_can_decide_one_round_later_than_nodes_may_stop(self):
        for nodes, most in self.CASES:
            world = stops_world(nodes, most)
            first, program, chains = fewest_rounds(world, most + 1)
            self.assertEqual((first, len(chains)), (most + 1, most + 1))
            self.assertIsNone(failing_run(all_due(world, first), first, program))
            for rounds, chain in enumerate(chains):
                self.assertTrue(chain_holds(all_due(world, rounds), rounds, chain))

    def test_the_first_element_does_not_hang_on_most(self):
        for nodes, most in ((2, 0), (3, 0), (3, 1), (4, 0), (4, 1)):
            for more in range(most + 1, 4):
                self.assertEqual(fewest_rounds(stops_world(nodes, most), more)[0], most + 1)
            for less in range(most + 1):
                self.assertIsNone(fewest_rounds(stops_world(nodes, most), less)[0])

    def test_the_rounds_of_stops_due_can_be_kept(self):
        for nodes, most in self.CASES:
            world = with_due(stops_world(nodes, most), stops_due(nodes, most))
            word, program = agree(world, most + 1)
            self.assertEqual(word, "program")
            self.assertIsNone(failing_run(world, most + 1, program))
            self.assertEqual(keen(world, most + 1)[0], "program")

    def test_no_round_sooner_for_any_number_of_stopped_nodes(self):
        for nodes, most in self.CASES:
            dues = stops_due(nodes, most)
            for stopped in range(most + 1):
                sooner = tuple((mark, time - (bin(mark).count("1") == stopped)) for mark, time in dues)
                world = with_due(stops_world(nodes, most), sooner)
                word, chain = agree(world, most + 1)
                self.assertEqual(word, "chain", (nodes, most, stopped))
                self.assertTrue(chain_holds(world, most + 1, chain))

    def test_blind_nodes_need_no_round(self):
        for nodes, most in self.CASES:
            self.assertEqual(fewest_rounds(stops_world(nodes, most, blind=True), 0)[0], 0)

    def test_where_one_node_may_be_left_one_round_less_is_enough(self):
        self.assertEqual(fewest_rounds(stops_world(2, 1), 3)[0], 1)
        self.assertEqual(fewest_rounds(stops_world(3, 2), 3)[0], 2)
        self.assertEqual(fewest_rounds(stops_world(3, 3), 3)[0], 2)


if __name__ == "__main__":
    unittest.main()
