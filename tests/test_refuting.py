"""Points 7 and 45: refutations, and what they prove."""

import copy
import random
import unittest

from alikeruns.demands import Demand
from alikeruns.making import broken_run, make
from alikeruns.refuting import refutation_holds
from alikeruns.worlds import World, losses_world, stops_world
from tests import demanding, reference
from tests.demanding import anything, end_of, refutes
from tests.reference import listed
from tests.test_making import sights_of
from tests.values import (CROWDED, JUNK, NOT_INTEGERS, error_of, fan_world, hints_world, is_plain, making_cases,
                          silent_world)

# Nobody hears anything; the marks 0 and 1 ask for equal and for different outputs.
PAIR = World(2, [(0, (0, 1), False, [(((), ()), (0, 0), 0), (((), ()), (0, 0), 1)]),
                 (1, (0, 1), False, [(((), ()), (0, 0), 1)])], 0, blind=True)
EQUAL = [(0, ((output,), (output,)), 0) for output in (0, 1)]
UNEQUAL = [(1, ((output,), (1 - output,)), 0) for output in (0, 1)]
XOR = Demand(2, 2, [EQUAL + UNEQUAL], [0])
ONE = ((0, 0), 0, ())
OTHER = ((1, 0), 0, ())
SAME_ENDS = ("broken", ((0, 0), (0,)))
OTHER_ENDS = ("broken", ((0, 0), (1,)))
TREE = ("ask", ONE, (("ask", OTHER, (OTHER_ENDS, SAME_ENDS)), ("ask", OTHER, (SAME_ENDS, OTHER_ENDS))))


def refuted_cases(many):
    """Cases by chance for which make returns a refutation, with it."""
    cases = making_cases()
    found = []
    for seed in range(many):
        world, rounds, demand = demanding.random_case(seed, cases)
        if error_of(make, world, rounds, demand) is None:
            word, tree = make(world, rounds, demand)
            if word == "refutation":
                found.append((world, rounds, demand, tree))
    return found


CASES = refuted_cases(500)


def changed_trees(source, world, rounds, tree, outs):
    """The tree with a branch, a sight or a run changed, cut, or asked twice, somewhere."""
    if tree[0] == "ask" and source.random() < 0.7:
        at = source.randrange(outs)
        return [tree[:2] + (tree[2][:at] + (branch,) + tree[2][at + 1:],)
                for branch in changed_trees(source, world, rounds, tree[2][at], outs)]
    listed_runs = reference.all_runs(world, source.randint(0, rounds))
    sights = list(sights_of(world, rounds).values()) or [(0, 0)]
    changes = [("broken", source.choice(listed_runs)), ("broken", source.choice(listed_runs)), (), None,
               ("ask", source.choice(sights), (tree,) * outs), ("ask", (0, 0), (tree,) * outs)]
    if tree[0] == "ask":
        branches = list(tree[2])
        source.shuffle(branches)
        changes += [("ask", tree[1], tuple(branches)), ("ask", source.choice(sights), tree[2]),
                    ("ask", tree[1], tree[2][1:]), ("ask", tree[1], tree[2] + tree[2][:1]), tree[2][0],
                    ("ask", tree[1], (tree,) * outs), ("ask", tree[1][:2] + (tree[1][2] + (tree[1],),), tree[2])]
    else:
        run = tree[1]
        changes += [("broken", (run[0], run[1][:-1])), ("broken", (run[0], run[1] + (0,))), ("broken", run[1]),
                    ("broken", (tuple(1 - value for value in run[0]), run[1])), ("broken", (run[0], (99,) + run[1]))]
    return changes


class RefutationHolds(unittest.TestCase):

    def test_trees_by_hand(self):
        self.assertIs(refutation_holds(PAIR, 1, XOR, TREE), True)
        self.assertIs(refutation_holds(PAIR, 1, XOR, listed(TREE)), True)
        self.assertIs(refutation_holds(PAIR, 2, XOR, TREE), True)
        self.assertIs(refutation_holds(PAIR, 0, XOR, TREE), False)
        self.assertTrue(refutes(PAIR, 1, XOR, TREE))
        self.assertIs(refutation_holds(PAIR, 1, anything(2, 2, marks=(0, 1)), TREE), False)
        self.assertIs(refutation_holds(PAIR, 1, anything(2, 2), OTHER_ENDS), True)
        self.assertIs(refutation_holds(PAIR, 1, anything(2, 2), SAME_ENDS), False)
        self.assertIs(refutation_holds(PAIR, 1, anything(2, 2), ("ask", ONE, (OTHER_ENDS, OTHER_ENDS))), True)

    def test_a_branch_a_sight_or_a_run_changed(self):
        first, second = TREE[2]
        for wrong in (("ask", ONE, (second, first)), ("ask", ONE, (first, first)), ("ask", OTHER, TREE[2]),
                      ("ask", ONE, (first,)), ("ask", ONE, (first, second, second)), ("ask", ONE, ()), ("ask", ONE),
                      ("ask", ONE, first), ("ask", ONE, None), ("ask", ONE, TREE[2], 0), ("Ask", ONE, TREE[2]),
                      ("broken", ONE, TREE[2]), (None, ONE, TREE[2]), (["ask"], ONE, TREE[2]), (("ask", ONE, TREE[2]),),
                      first, second, SAME_ENDS, OTHER_ENDS, ("broken",), ("broken", ((0, 0), ())),
                      ("ask", (0, 0), TREE[2]),
                      ("ask", ONE, (first, SAME_ENDS)), ("ask", ONE, (OTHER_ENDS, second)),
                      ("ask", (ONE, 0, ()), TREE[2]), ("ask", ((0, 0), 1, ()), TREE[2]), ("ask", None, TREE[2]),
                      ("ask", ((0, 0), 0, ((1, 0),)), TREE[2]), ("ask", ((False, 0), 0, ()), TREE[2]),
                      ("ask", ((0, 0), False, ()), TREE[2]), ("ask", ((0, False), 0, ()), TREE[2])):
            self.assertIs(refutation_holds(PAIR, 1, XOR, wrong), False, wrong)
        for word in ("Broken", "ask", "break", "", None, 0, True, ["broken"], ("broken",)):
            wrong = ("ask", ONE, (("ask", OTHER, (OTHER_ENDS, (word, SAME_ENDS[1]))), second))
            self.assertIs(refutation_holds(PAIR, 1, XOR, wrong), False, word)
            self.assertIs(refutation_holds(PAIR, 1, anything(2, 2), (word, OTHER_ENDS[1])), False, word)
        for run in (((0, 0), (2,)), ((0, 1), (0,)), ((0, 0), (0, 0)), ((0, 0), ()), ((0, 0), (False,)), (0, 0), None,
                    ((0, 0), (0,), ()), ((0,), (0,)), "run", (((0, 0), (0,)),), ((0, 0), ((0,),)), ((0, False), (0,))):
            wrong = ("ask", ONE, (("ask", OTHER, (OTHER_ENDS, ("broken", run))), second))
            self.assertIs(refutation_holds(PAIR, 1, XOR, wrong), False, run)

    def test_no_sight_is_asked_twice(self):
        first, second = TREE[2]
        self.assertIs(refutation_holds(PAIR, 1, XOR, ("ask", ONE, (("ask", ONE, (first, first)), second))), False)
        again = ("ask", OTHER, (OTHER_ENDS, ("ask", OTHER, (SAME_ENDS, SAME_ENDS))))
        self.assertIs(refutation_holds(PAIR, 1, XOR, ("ask", ONE, (again, second))), False)
        deep = ("ask", (ONE, 0, ()), (first, first))
        self.assertIs(refutation_holds(PAIR, 2, XOR, ("ask", ONE, (deep, second))), True)
        self.assertIs(refutation_holds(PAIR, 1, XOR, ("ask", ONE, (deep, second))), False)

    def test_shorter_runs_may_stand_at_the_ends(self):
        demand = Demand(2, 2, [EQUAL + [(1, ((0, 1), (0, 1)), 0)]], [0])
        never = Demand(2, 2, [[(0, ((0, 1), (0, 1)), 0)]], [0])
        self.assertIs(refutation_holds(PAIR, 3, never, ("broken", ((0, 0), (0, 0, 1)))), True)
        self.assertIs(refutation_holds(PAIR, 3, never, ("broken", ((0, 0), (0, 1)))), True)
        self.assertIs(refutation_holds(PAIR, 3, never, ("broken", ((0, 0), (0, 0)))), False)
        self.assertIs(refutation_holds(PAIR, 2, never, ("broken", ((0, 0), (0, 0, 1)))), False)
        self.assertIs(refutation_holds(PAIR, 1, demand, OTHER_ENDS), False)

    def test_sets_of_demand_states_are_seen(self):
        # Whichever way is taken first, the outputs of both ways are never mixed.
        states = [[(0, ((0, 1),), 1), (0, ((0, 1),), 2)], [(0, ((0,),), 1)], [(0, ((1,),), 2)]]
        demand = Demand(1, 2, states, [0])
        world = losses_world(1, 0, blind=True)
        second = (((0, 0), 0, ()), 0, ())
        third = (second, 0, ())
        self.assertEqual(make(world, 3, demand)[0], "table")
        end = ("broken", ((0,), (0, 0, 0)))
        self.assertIs(refutation_holds(world, 3, demand, ("ask", second, (end, end))), False)
        tree = ("ask", second, (("ask", third, (end, end)), ("ask", third, (end, end))))
        self.assertIs(refutation_holds(world, 3, demand, tree), False)
        # If both ways go on with the other output, it is broken whatever the first one was.
        strict = Demand(1, 2, [states[0], [(0, ((0,),), 3)], [(0, ((1,),), 3)], [(0, ((0,),), 4)], []], [0])
        self.assertEqual(make(world, 3, strict)[0], "table")
        self.assertIs(refutation_holds(world, 4, strict, ("broken", ((0,), (0,) * 4))), True)
        self.assertIs(refutation_holds(world, 4, strict, end), False)
        self.assertIs(refutation_holds(world, 3, strict, ("ask", third, (end, end))), False)

    def test_many_cases_by_chance(self):
        self.assertGreater(len(CASES), 80)
        for world, rounds, demand, tree in CASES:
            self.assertTrue(is_plain(tree))
            self.assertIs(refutation_holds(world, rounds, demand, tree), True)
            self.assertIs(refutation_holds(world, rounds, demand, listed(tree)), True)
            self.assertTrue(refutes(world, rounds, demand, tree))

    def test_changed_trees_by_chance(self):
        source = random.Random(21)
        many = [0, 0]
        for world, rounds, demand, tree in CASES:
            for _ in range(2):
                for changed in changed_trees(source, world, rounds, tree, demand.outs):
                    told = refutes(world, rounds, demand, changed)
                    self.assertIs(refutation_holds(world, rounds, demand, changed), told, changed)
                    many[told] += 1
        self.assertGreater(min(many), 200)

    def test_it_refutes_every_table(self):
        source = random.Random(22)
        asked_ones = 0
        for world, rounds, demand, tree in CASES:
            sights = sights_of(world, rounds)
            for _ in range(4):
                chosen = {text: source.randrange(demand.outs) for text in sights}
                table = [(sights[text], output) for text, output in chosen.items()]
                run, asked = end_of(tree, chosen)
                self.assertFalse(demanding.kept(world, run, demand, demanding.outputs_in(world, run, chosen)))
                self.assertIsNotNone(broken_run(world, rounds, demand, table))
                # It is enough that the sights are asked on the way.
                few = [(sights[text], chosen[text]) for text in asked]
                self.assertIsNotNone(broken_run(world, rounds, demand, few))
                asked_ones += len(asked) > 0
        self.assertGreater(asked_ones, 100)

    def test_none_holds_where_there_is_a_table(self):
        source = random.Random(23)
        cases = making_cases()
        many = 0
        for seed in range(150):
            world, rounds, demand = demanding.random_case(seed, cases)
            if rounds and error_of(make, world, rounds, demand) is None and make(world, rounds, demand)[0] == "table":
                sights = list(sights_of(world, rounds).values())
                listed_runs = reference.all_runs(world, rounds)
                for _ in range(5):
                    self.assertIs(refutation_holds(world, rounds, demand,
                                                   self.any_tree(source, sights, listed_runs, demand.outs)), False)
                    many += 1
        self.assertGreater(many, 200)

    def any_tree(self, source, sights, listed_runs, outs):
        if not sights or source.random() < 0.3:
            return ("broken", source.choice(listed_runs))
        told = source.choice(sights)
        rest = [other for other in sights if other != told][:3]
        return ("ask", told, [self.any_tree(source, rest, listed_runs, outs) for _ in range(outs)])

    def test_ends_are_not_more_than_told(self):
        for world, rounds, demand, tree in CASES:
            product = 1
            for outputs in demanding.open_outputs(world, rounds, demand).values():
                product *= max(1, len(outputs))
            self.assertLessEqual(demanding.ends_of(tree), 60 * demand.outs * product)

    def test_any_value(self):
        for value in JUNK + (0, 1, "ask", "broken", ("ask",), ("broken",), ("ask", None, None), ("broken", None),
                             (("ask", ONE), 0, 1), ("ask", ONE, ("broken", "broken")), ("ask", TREE, TREE[2]),
                             ("ask", ONE, (TREE, TREE)), [[]] * 3, (0, 1), (0, 1, 2), ("broken", TREE),
                             {"a": 1}.get("b")):
            self.assertIs(refutation_holds(PAIR, 1, XOR, value), False, repr(value)[:80])
        deep = SAME_ENDS
        for _ in range(19):
            deep = ("ask", ONE, (deep, SAME_ENDS))
        self.assertIs(refutation_holds(PAIR, 1, XOR, deep), False)

    def test_deep_refutations(self):
        # A row of twenty sights: each two that follow each other to be equal, the first one 0, the last one 1.
        live = (0, 1)
        moves = [(((), ()), ((at + 1) // 2, at // 2), 1) for at in range(19)]
        moves += [(((), ()), (0, 5), 2), (((), ()), (5, 9), 3)]
        states = [(0, live, False, moves)]
        states += [(mark, live, False, [(((), ()), (0, 0), mark)]) for mark in (1, 2, 3)]
        world = World(2, states, 0, blind=True)
        rows = [(1, ((output,), (output,)), 0) for output in (0, 1)]
        rows += [(2, ((0,), (0, 1)), 0), (3, ((0, 1), (1,)), 0)]
        demand = Demand(2, 2, [rows], [0])
        word, tree = make(world, 1, demand)
        self.assertEqual(word, "refutation")
        self.assertIs(refutation_holds(world, 1, demand, tree), True)
        self.assertIs(refutation_holds(world, 1, demand, listed(tree)), True)
        self.assertGreater(demanding.ends_of(tree), 10)
        self.assertEqual(make(world, 1, Demand(2, 2, [rows[:3]  + [(3, ((0, 1), (0,)), 0)]], [0]))[0], "table")

    def test_no_bound_on_sights(self):
        world = hints_world(100, (0, 1))
        tree = ("broken", ((0,), (99,)))
        self.assertIs(refutation_holds(world, 1, anything(1, 2), tree), True)
        self.assertIs(refutation_holds(world, 1, anything(1, 2), ("broken", ((0,), (98,)))), False)
        asked = ("ask", ((0, 0), 98, ()), (tree, tree))
        self.assertIs(refutation_holds(world, 1, anything(1, 2), asked), True)
        self.assertIs(refutation_holds(world, 1, anything(1, 2), ("ask", ((0, 0), 100, ()), (tree, tree))), False)

    def test_5_rounds(self):
        world = silent_world(2)
        demand = Demand(2, 1, [[(0, ((0,), (0,)), min(at + 1, 4))] for at in range(4)] + [[]], [0])
        tree = ("broken", ((1, 0), (0,) * 5))
        self.assertIs(refutation_holds(world, 5, demand, tree), True)
        self.assertIs(refutation_holds(world, 4, demand, tree), False)
        self.assertIs(refutation_holds(world, 5, demand, ("broken", ((1, 0), (0,) * 4))), False)

    def test_30000_runs_and_more(self):
        self.assertIs(refutation_holds(fan_world(15, 0), 2, anything(1, 1), ("broken", ((0,), (3,)))), True)
        for demand in (anything(1, 1), anything(2, 1)):
            self.assertEqual(error_of(refutation_holds, fan_world(15, 1), 2, demand, None), ("TooMany", "runs"))

    def test_wrong_arguments(self):
        for wrong in (-1, 6, 10 ** 30) + NOT_INTEGERS:
            for world in (PAIR, CROWDED):
                self.assertEqual(error_of(refutation_holds, world, wrong, anything(3, 1), None), ("BadValue", 2))
        for nodes in (1, 3, 4):
            self.assertEqual(error_of(refutation_holds, PAIR, 1, anything(nodes, 2), TREE), ("BadValue", 3))
        self.assertEqual(error_of(refutation_holds, stops_world(3, 1), 1, XOR, None), ("BadValue", 3))

    def test_what_was_given_is_not_changed(self):
        tree = listed(TREE)
        before = copy.deepcopy(tree)
        refutation_holds(PAIR, 1, XOR, tree)
        self.assertEqual(tree, before)


if __name__ == "__main__":
    unittest.main()
