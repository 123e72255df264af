"""Points 18 to 20: worlds that are given by hand."""

import random
import unittest

from alikeruns.worlds import World
from tests import reference
from tests.values import JUNK, NOT_SEQUENCES, chain_world, error_of, is_plain, random_states

# Two nodes; node 1 may stop in any round, and is heard or not.
BOTH = (((1,), (0,)), (5, -5), 0)
LAST_WORD = (((1,), None), (0, None), 1)
SILENCE = (((), None), (0, None), 1)
ALONE = (((), None), (7, None), 1)
STATES = ((3, (0, 1), False, (BOTH, LAST_WORD, SILENCE)), (4, (0,), True, (ALONE,)))


def with_state(number, **parts):
    """STATES with some parts of one state in place of what they were."""
    names = ("mark", "live", "due", "moves")
    states = [list(state) for state in STATES]
    for name in parts:
        states[number][names.index(name)] = parts[name]
    return states


def with_move(number, place, **parts):
    """STATES with some parts of one move in place of what they were."""
    names = ("heard", "hints", "to")
    moves = [list(move) for move in STATES[number][3]]
    for name in parts:
        moves[place][names.index(name)] = parts[name]
    return with_state(number, moves=moves)


def moves_of_one(many):
    """So many moves of a world of one node and one state, all different, some of them faulty."""
    return [(((),), (hint,), 0) for hint in range(-1000, many - 1000)]


class Properties(unittest.TestCase):

    def test_a_world_keeps_what_it_was_given(self):
        world = World(2, STATES, 1, blind=True)
        self.assertEqual((world.nodes, world.states, world.start, world.blind), (2, STATES, 1, True))
        self.assertIs(World(2, STATES, 0).blind, False)
        self.assertIs(World(2, STATES, 0, blind=False).blind, False)

    def test_the_length_of_a_world_is_the_number_of_its_states(self):
        self.assertEqual(len(World(2, STATES, 0)), 2)
        self.assertEqual(len(World(1, [(0, (), False, [((None,), (None,), 0)])], 0)), 1)
        self.assertEqual(len(chain_world([1] * 400)), 400)

    def test_worlds_are_equal_if_nodes_states_start_and_blind_are(self):
        world = World(2, STATES, 0)
        self.assertTrue(world == World(2, STATES, 0))
        self.assertFalse(world != World(2, STATES, 0))
        self.assertTrue(world == World(2, reference.listed(STATES), 0))
        self.assertFalse(world == World(2, STATES, 1))
        self.assertFalse(world == World(2, STATES, 0, blind=True))
        self.assertTrue(world != World(2, STATES, 0, blind=True))
        self.assertFalse(world == World(2, with_state(0, mark=4), 0))
        self.assertFalse(world == World(2, with_state(0, due=True), 0))
        self.assertFalse(world == World(2, with_move(0, 0, hints=(5, 5)), 0))
        self.assertFalse(world == World(2, with_move(0, 0, heard=((), (0,))), 0))

    def test_worlds_of_different_numbers_of_nodes_are_not_equal(self):
        worlds = [World(nodes, [(0, (), False, [((None,) * nodes, (None,) * nodes, 0)])], 0) for nodes in (1, 2)]
        self.assertFalse(worlds[0] == worlds[1])

    def test_a_world_is_equal_to_nothing_else(self):
        world = World(2, STATES, 0)
        for value in JUNK + (STATES, (2, STATES, 0, False)):
            self.assertFalse(world == value)
            self.assertTrue(world != value)

    def test_lists_are_taken_at_every_level_and_tuples_are_kept(self):
        world = World(2, reference.listed(STATES), 0)
        self.assertEqual(world.states, STATES)
        self.assertTrue(is_plain(world.states))

    def test_tuples_of_classes_of_their_own_become_plain_ones(self):
        class Own(tuple):
            pass

        def owned(value):
            return Own(owned(x) for x in value) if isinstance(value, tuple) else value

        self.assertTrue(is_plain(World(2, owned(STATES), 0).states))

    def test_later_changes_to_what_was_given_have_no_effect(self):
        given = reference.listed(STATES)
        world = World(2, given, 0)
        given[0][3][0][0][0].append(0)
        given[0][3][0][1][0] = 1
        given[0][3].pop()
        given[0][1].clear()
        given.append(given[0])
        self.assertEqual(world.states, STATES)
        self.assertEqual(len(world), 2)

    def test_what_is_given_is_not_changed(self):
        given = reference.listed(STATES)
        World(2, given, 0)
        self.assertEqual(given, reference.listed(STATES))
        given[1][0] = -1
        self.assertEqual(error_of(World, 2, given, 0), ("BadState", 1))
        self.assertEqual(given[0], reference.listed(STATES[0]))

    def test_random_worlds_are_kept(self):
        for seed in range(200):
            source = random.Random(seed)
            nodes = source.randint(1, 4)
            states = random_states(source, nodes, source.randint(1, 6), 4)
            world = World(nodes, states, len(states) - 1)
            self.assertEqual(world.states, reference.plain(states))
            self.assertTrue(is_plain(world.states))


class Edges(unittest.TestCase):

    def test_one_to_four_nodes(self):
        for nodes in (1, 2, 3, 4):
            live = tuple(range(nodes))
            heard = tuple(tuple(other for other in live if other != node) for node in live)
            states = ((0, live, False, ((heard, (0,) * nodes, 0),)),)
            self.assertEqual(World(nodes, states, 0).states, states)

    def test_marks_from_0_to_10000(self):
        for mark in (0, 1, 9999, 10000):
            self.assertEqual(World(2, with_state(1, mark=mark), 0).states[1][0], mark)
        for mark in (-1, 10001, 10 ** 30, -10 ** 30, True, False, None, "0", (0,)):
            self.assertEqual(error_of(World, 2, with_state(1, mark=mark), 0), ("BadState", 1))
            self.assertEqual(error_of(World, 2, with_state(0, mark=mark), 0), ("BadState", 0))

    def test_hints_from_minus_1000_to_1000(self):
        for hint in (-1000, -999, 0, 999, 1000):
            self.assertEqual(World(2, with_move(1, 0, hints=(hint, None)), 0).states[1][3][0][1], (hint, None))
        for hint in (-1001, 1001, 10 ** 30, -10 ** 30, True, False, None, "0", (0,)):
            self.assertEqual(error_of(World, 2, with_move(1, 0, hints=(hint, None)), 0), ("BadState", 1))
            self.assertEqual(error_of(World, 2, with_move(0, 0, hints=(0, hint)), 0), ("BadState", 0))

    def test_400_states_and_401(self):
        self.assertEqual(len(chain_world([1] * 400)), 400)
        self.assertEqual(error_of(chain_world, [1] * 401), ("TooMany", "states"))
        for many, wrong in ((401, ("TooMany", "states")), (400, ("BadState", 0)), (20000, ("TooMany", "states"))):
            self.assertEqual(error_of(World, 1, [None] * many, 0), wrong)

    def test_2000_moves_and_2001(self):
        self.assertEqual(len(World(1, [(0, (0,), False, moves_of_one(2000))], 0).states[0][3]), 2000)
        for moves in (moves_of_one(2001), tuple(moves_of_one(2001)), [None] * 2001, [0] * 20000):
            self.assertEqual(error_of(World, 1, [(0, (0,), False, moves)], 0), ("TooMany", "moves"))
            self.assertEqual(error_of(World, 1, [[0, [0], False, moves]], 0), ("TooMany", "moves"))
        self.assertEqual(error_of(World, 1, [(0, (0,), False, [None] * 2000)], 0), ("BadState", 0))

    def test_too_many_moves_go_ahead_of_all_else_in_their_state_only(self):
        many = moves_of_one(2001)
        self.assertEqual(error_of(World, 1, [(None, "x", 3, many)], 0), ("TooMany", "moves"))
        good = (0, (0,), False, [(((),), (0,), 0)])
        self.assertEqual(error_of(World, 1, [good, (None, "x", 3, many)], 9), ("TooMany", "moves"))
        self.assertEqual(error_of(World, 1, [None, (0, (0,), False, many)], 0), ("BadState", 0))
        self.assertEqual(error_of(World, 1, [(0, (0,), False, many), None], 0), ("TooMany", "moves"))
        self.assertEqual(error_of(World, 1, [(0, (0,), False, many, 0)], 0), ("BadState", 0))
        self.assertEqual(error_of(World, 1, [((0,), False, many)], 0), ("BadState", 0))
        self.assertEqual(error_of(World, 1, [(0, many, False, [(((),), (0,), 0)])], 0), ("BadState", 0))
        self.assertEqual(error_of(World, 1, [(0, (0,), False, "x" * 2001)], 0), ("BadState", 0))

    def test_a_state_in_which_no_node_is_live(self):
        dead = ((None, None), (None, None), 2)
        states = (STATES[0][:3] + (STATES[0][3] + (dead,),), STATES[1], (9, (), True, (dead,)))
        world = World(2, states, 0)
        self.assertEqual(world.states, states)
        self.assertEqual(World(2, states, 2).start, 2)

    def test_a_state_needs_a_move(self):
        for moves in ((), [], None, "", 0):
            self.assertEqual(error_of(World, 2, with_state(1, moves=moves), 0), ("BadState", 1))

    def test_starts(self):
        for start in (0, 1):
            self.assertEqual(World(2, STATES, start).start, start)
        for start in (-1, 2, 3) + JUNK:
            self.assertEqual(error_of(World, 2, STATES, start), ("BadValue", 3))
        for start in (0, -1, 1, None):
            self.assertEqual(error_of(World, 2, [], start), ("BadValue", 3))
            self.assertEqual(error_of(World, 2, (), start), ("BadValue", 3))


class Wrong(unittest.TestCase):

    def test_nodes(self):
        for nodes in (0, 5, -1) + JUNK:
            self.assertEqual(error_of(World, nodes, STATES, 0), ("BadValue", 1))

    def test_states_that_are_no_sequence(self):
        for states in NOT_SEQUENCES:
            self.assertEqual(error_of(World, 2, states, 0), ("BadValue", 2))

    def test_states_of_the_wrong_form(self):
        for junk in JUNK + (STATES[1][:3], STATES[1] + (0,), "abcd", STATES):
            self.assertEqual(error_of(World, 2, (STATES[0], junk), 0), ("BadState", 1), repr(junk)[:80])
            self.assertEqual(error_of(World, 2, (junk, STATES[1]), 0), ("BadState", 0), repr(junk)[:80])
            self.assertEqual(error_of(World, 2, STATES + (junk,), 0), ("BadState", 2), repr(junk)[:80])

    def test_live_nodes(self):
        for live in ((1, 0), (0, 0), (0, 2), (-1, 0), (0, True), (False, 1), ("0",), ((0,),), (None,)) + JUNK:
            self.assertEqual(error_of(World, 2, with_state(0, live=live), 0), ("BadState", 0), repr(live)[:80])

    def test_due_is_a_bool(self):
        for due in (True, False):
            self.assertIs(World(2, with_state(0, due=due), 0).states[0][2], due)
        for due in (0, 1, None, "", "True", (), [True]):
            self.assertEqual(error_of(World, 2, with_state(0, due=due), 0), ("BadState", 0))

    def test_moves_of_the_wrong_form(self):
        for junk in JUNK + (BOTH[:2], BOTH + (0,), "abc"):
            self.assertEqual(error_of(World, 2, with_state(0, moves=(junk,)), 0), ("BadState", 0), repr(junk)[:80])
            self.assertEqual(error_of(World, 2, with_state(0, moves=(BOTH, junk)), 0), ("BadState", 0))
        for junk in NOT_SEQUENCES:
            self.assertEqual(error_of(World, 2, with_state(0, moves=junk), 0), ("BadState", 0))

    def test_moves_that_lead_to_no_state(self):
        for to in (-1, 2, -2) + JUNK:
            self.assertEqual(error_of(World, 2, with_move(0, 1, to=to), 0), ("BadState", 0), repr(to)[:80])
            self.assertEqual(error_of(World, 2, with_move(1, 0, to=to), 0), ("BadState", 1), repr(to)[:80])

    def test_what_is_heard(self):
        for heard in ((), ((1,),), ((1,), (0,), ()), ((1,), None), (None, (0,)), (None, None), ((0,), (0,)),
                      ((1,), (1,)), ((0, 1), (0,)), ((1, 1), (0,)), ((2,), (0,)), ((-1,), (0,)), ((True,), (0,)),
                      ((1,), (False,)), (1, 0), ("1", (0,)), ((1,), "0"), ((None,), (0,)), (((1,),), (0,))) + JUNK:
            self.assertEqual(error_of(World, 2, with_move(0, 0, heard=heard), 0), ("BadState", 0), repr(heard)[:80])

    def test_hints(self):
        for hints in ((), (0,), (0, 0, 0), (0, None), (None, 0), (None, None), ((0,), 0), ("0", 0), "00") + JUNK:
            self.assertEqual(error_of(World, 2, with_move(0, 0, hints=hints), 0), ("BadState", 0), repr(hints)[:80])

    def test_nodes_that_are_not_live_have_none_in_both(self):
        for heard, hints in ((((), ()), (0, None)), (((), None), (0, 0)), (((), ()), (0, 0)), (((), False), (0, None)),
                             (((), None), (0, False)), ((None, None), (None, None)), (((), None), (None, None)),
                             ((None, None), (0, None))):
            self.assertEqual(error_of(World, 2, with_move(1, 0, heard=heard, hints=hints), 0), ("BadState", 1))
            self.assertEqual(error_of(World, 2, with_move(0, 1, heard=heard, hints=hints), 0), ("BadState", 0))

    def test_only_nodes_that_are_live_are_heard(self):
        three = [[0, [0, 1, 2], False, [[[[1, 2], [0], []], [0, 0, 0], 0], [[[1, 2], [0, 2], None], [0, 0, None], 1]]],
                 [1, [0, 1], False, [[[[1], [0], None], [0, 0, None], 1]]]]
        self.assertEqual(World(3, three, 0).states, reference.plain(three))
        three[1][3][0][0][0] = [1, 2]
        self.assertEqual(error_of(World, 3, three, 0), ("BadState", 1))
        three[1][3][0][0][0] = [2]
        self.assertEqual(error_of(World, 3, three, 0), ("BadState", 1))

    def test_heard_nodes_ascend(self):
        def world(heard):
            return [(0, (0, 1, 2), False, [[[heard, [], []], [0, 0, 0], 0]])]
        self.assertIsNone(error_of(World, 3, world([1, 2]), 0))
        for heard in ([2, 1], [1, 1], [2, 2], [0, 1, 2], [1, 2, 3], [1, 2, 2]):
            self.assertEqual(error_of(World, 3, world(heard), 0), ("BadState", 0))

    def test_live_nodes_do_not_come_back(self):
        back = (((), ()), (0, 0), 0)
        self.assertEqual(error_of(World, 2, with_state(1, moves=(ALONE, back)), 0), ("BadState", 1))
        back = (((), None), (0, None), 0)
        self.assertEqual(error_of(World, 2, with_state(1, moves=(ALONE, back)), 0), ("BadState", 1))
        other = (6, (1,), False, ((((None, ()), (None, 0), 2)),))
        for move in (((None, ()), (None, 0), 2), ((None, None), (None, None), 2), (((), None), (0, None), 2)):
            states = (STATES[0], (4, (0,), True, (move,)), other)
            self.assertEqual(error_of(World, 2, states, 0), ("BadState", 1))

    def test_no_two_moves_are_equal(self):
        for again in (BOTH, reference.listed(BOTH), [BOTH[0], list(BOTH[1]), 0]):
            self.assertEqual(error_of(World, 2, with_state(0, moves=(BOTH, LAST_WORD, again)), 0), ("BadState", 0))
        self.assertEqual(error_of(World, 2, with_state(1, moves=[ALONE, ALONE]), 0), ("BadState", 1))

    def test_moves_that_differ_in_one_part_only(self):
        states = (STATES[0], STATES[1], STATES[1])
        moves = (ALONE, ALONE[:2] + (2,), (ALONE[0], (6, None), 1))
        self.assertEqual(len(World(2, (states[0], (4, (0,), True, moves), states[2]), 0).states[1][3]), 3)


class WrongTargets(unittest.TestCase):
    """What of a move hangs on a state that is wrong itself."""

    def error(self, move, target, live=(0, 1)):
        return error_of(World, 2, [(0, live, False, [move]), target], 0)

    def test_a_target_of_the_right_form_tells_who_is_live_though_it_is_wrong(self):
        for target in ((-1, (0,), False, ()), [None, [0], None, None], (0, (0,), 5, "x")):
            self.assertEqual(self.error((((1,), None), (0, None), 1), target), ("BadState", 1))
            self.assertEqual(self.error((((1,), ()), (0, 0), 1), target), ("BadState", 0))
            self.assertEqual(self.error(((None, None), (None, None), 1), target), ("BadState", 0))
            self.assertEqual(self.error(((None, None), (None, None), 1), target, ()), ("BadState", 0))
        many = (0, (0,), False, [None] * 2001)
        self.assertEqual(self.error((((1,), None), (0, None), 1), many), ("TooMany", "moves"))
        self.assertEqual(self.error((((1,), ()), (0, 0), 1), many), ("BadState", 0))

    def test_a_target_of_another_form_does_not(self):
        for target in JUNK + ((0, (0,), False), (0, (0,), False, (), 0), (0, (1, 0), False, ()), (0, (2,), False, ()),
                              (0, (True,), False, ()), (0, "0", False, ()), (0, None, False, ()), "abcd"):
            for move in ((((1,), None), (0, None), 1), (((1,), ()), (0, 0), 1), ((None, (0,)), (None, 1), 1),
                         ((None, None), (None, None), 1)):
                self.assertEqual(self.error(move, target), ("BadState", 1), repr(target)[:80])

    def test_all_else_of_a_move_is_looked_at_all_the_same(self):
        for move in (((None, ()), (0, 0), 1), (((), None), (0, 0), 1), (((), None), (None, None), 1),
                     (((0,), None), (0, None), 1), (((1, 1), None), (0, None), 1), (((1,), None), (1001, None), 1),
                     (((1,), None), (True, None), 1), (((1,), None), (0,), 1), (((1,),), (0, None), 1),
                     (((2,), None), (0, None), 1), (((1,), None), (0, None)), (((1,), None), (0, None), True),
                     (("1", None), (0, None), 1), None):
            self.assertEqual(self.error(move, None), ("BadState", 0), repr(move))

    def test_only_live_nodes_can_be_told_something(self):
        self.assertEqual(self.error((((), None), (0, None), 1), None, (0,)), ("BadState", 1))
        self.assertEqual(self.error(((None, None), (None, None), 1), None, (0,)), ("BadState", 1))
        self.assertEqual(self.error((((), ()), (0, 0), 1), None, (0,)), ("BadState", 0))
        self.assertEqual(self.error(((None, ()), (None, 0), 1), None, (0,)), ("BadState", 0))
        self.assertEqual(self.error((((1,), None), (0, None), 1), None, (0,)), ("BadState", 0))

    def test_equal_moves_to_a_wrong_state(self):
        move = (((1,), None), (0, None), 1)
        self.assertEqual(error_of(World, 2, [(0, (0, 1), False, [move, list(move)]), None], 0), ("BadState", 0))

    def test_a_wrong_state_is_told_ahead_of_what_leads_to_it_later(self):
        self.assertEqual(error_of(World, 2, [None, (0, (0, 1), False, [(((), ()), (0, 0), 0)])], 0), ("BadState", 0))


class Order(unittest.TestCase):

    def test_errors_are_checked_in_order(self):
        many = [None] * 401
        moves = (0, (0,), False, [None] * 2001)
        self.assertEqual(error_of(World, 5, None, None), ("BadValue", 1))
        self.assertEqual(error_of(World, 0, many, 7), ("BadValue", 1))
        self.assertEqual(error_of(World, 2, "", None), ("BadValue", 2))
        self.assertEqual(error_of(World, 2, many, None), ("TooMany", "states"))
        self.assertEqual(error_of(World, 2, [moves] * 401, None), ("TooMany", "states"))
        self.assertEqual(error_of(World, 2, [moves, None], None), ("TooMany", "moves"))
        self.assertEqual(error_of(World, 2, [None, moves], None), ("BadState", 0))
        self.assertEqual(error_of(World, 2, [STATES[0], None, None], None), ("BadState", 1))
        self.assertEqual(error_of(World, 2, STATES, None), ("BadValue", 3))

    def test_random_faults(self):
        kinds = {}
        for seed in range(4000):
            source = random.Random(seed)
            nodes = source.randint(1, 3)
            states = random_states(source, nodes, source.randint(1, 4), 3)
            start = 0
            for _ in range(source.randint(1, 2)):
                spoil(source, states)
            wrong = reference.world_error(nodes, states, start)
            self.assertEqual(error_of(World, nodes, states, start), wrong, states)
            if wrong is None:
                self.assertEqual(World(nodes, states, start).states, reference.plain(states))
            kinds[wrong] = kinds.get(wrong, 0) + 1
        for wrong in (None, ("BadState", 0), ("BadState", 1), ("BadState", 2)):
            self.assertGreater(kinds[wrong], 50)


def spoil(source, states):
    """Changes something at a random place in nested lists."""
    row = states
    while source.random() < 0.85:
        inner = [x for x in row if isinstance(x, list) and x]
        if not inner:
            break
        row = source.choice(inner)
    at = source.randrange(len(row)) if row else 0
    way = source.randrange(4)
    if way == 0 and row:
        row.pop(at)
    elif way == 1 and row:
        row.insert(at, row[at])
    elif way == 2 and row and type(row[at]) is int:
        row[at] += source.choice((-1, 1, 1000))
    elif row:
        row[at] = source.choice((None, True, False, "0", 0, 1, 2, [], [0], [1], [[0]], (), -1))


if __name__ == "__main__":
    unittest.main()
