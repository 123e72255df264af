"""Points 15 and 55 to 57: worlds and demands as texts."""

import random
import re
import unittest

from alikeruns.demands import Demand
from alikeruns.detectors import cautious, complete, late, leaders, perfect, trusting
from alikeruns.hints import with_hints
from alikeruns.texts import parse, printed
from alikeruns.worlds import World, hears_world, losses_world, stops_due, stops_world, with_due, with_marks
from tests import demanding
from tests.values import JUNK, chain_world, error_of, random_world

WORLD = World(2, [(10, (0, 1), True, [((None, (0,)), (None, -17), 1), (((1,), ()), (1000, 0), 0)]),
                  (0, (1,), False, [((None, ()), (None, 5), 1), ((None, None), (None, None), 2)]),
                  (7, (), False, [((None, None), (None, None), 2)])], 0, blind=True)

WORLD_TEXT = """world 2 start 0 blind yes
state 0 mark 10 live 0,1 due yes
to 1 x x 0 -17
to 0 1 1000 - 0
state 1 mark 0 live 1 due no
to 1 x x - 5
to 2 x x x x
state 2 mark 7 live - due no
to 2 x x x x
"""

DEMAND = Demand(2, 12, [[(3, ((0, 11), None), 1), (10000, ((5,), (0, 1, 2)), 0)], []], [[0], [1], [0, 1], [0]])

DEMAND_TEXT = """demand 2 outs 12
starts 0 1 0,1 0
state 0
mark 3 to 1 0,11 x
mark 10000 to 0 5 0,1,2
state 1
"""

NUMBER = r"(0|[1-9][0-9]{0,8})"
LIST = f"{NUMBER}(,{NUMBER})*"


def line_forms(nodes):
    """The forms of the lines of states and moves, and of demand states and rows."""
    heard = f"( ({LIST}|-) (-[1-9][0-9]{{0,8}}|{NUMBER})| x x)"
    return {"world": (f"state N mark {NUMBER} live ({LIST}|-) due (yes|no)", f"to {NUMBER}{heard}{{{nodes}}}"),
            "demand": ("state N", f"mark {NUMBER} to {NUMBER}( ({LIST}|x)){{{nodes}}}")}


def wrong_line(text):
    """The number of the first line that does not fit, None if the text has the form. [57]"""
    lines = text.split("\n")
    ended, rest = lines[:-1], lines[-1]
    if not ended:
        return 0
    first = re.fullmatch(f"(world|demand) ([1-4]) (start {NUMBER} blind (yes|no)|outs {NUMBER})", ended[0])
    if not first or (first[1] == "world") != first[3].startswith("start"):
        return 0
    at = 1
    if first[1] == "demand":
        if len(ended) < 2 or not re.fullmatch(f"starts( {LIST}){{{2 ** int(first[2])}}}", ended[1]):
            return 1
        at = 2
    state, row = line_forms(int(first[2]))[first[1]]
    states = 0
    for number, line in enumerate(ended[at:], at):
        if re.fullmatch(state.replace("N", str(states)), line):
            states += 1
        elif not states or not re.fullmatch(row, line):
            return number
    return len(ended) if rest or not states else None


def some_values():
    """Worlds and demands of all kinds."""
    values = [WORLD, DEMAND, stops_world(1, 0), stops_world(4, 1), stops_world(3, 3, blind=True), losses_world(3, 2),
              hears_world(2, 0, blind=True), with_due(stops_world(2, 1), stops_due(2, 1)),
              with_marks(losses_world(1, 0), [(0, 10000)]), chain_world([3, 1, 2]),
              with_hints(stops_world(2, 1), perfect(2)), with_hints(losses_world(2, 0), leaders(2, 2)),
              Demand(1, 1, [[]], [0]), Demand(4, 16, [[]] * 12, [3, 11])]
    for nodes in (1, 2, 3, 4):
        values += [perfect(nodes), cautious(nodes), complete(nodes), trusting(nodes), leaders(nodes, 2),
                   late(trusting(nodes), 2)]
    for seed in range(60):
        world = random_world(seed, most_nodes=4)
        values += [world, demanding.random_demand(random.Random(seed), world)]
    return values


class Printed(unittest.TestCase):

    def test_by_hand(self):
        self.assertEqual(printed(WORLD), WORLD_TEXT)
        self.assertEqual(printed(DEMAND), DEMAND_TEXT)
        self.assertEqual(printed(losses_world(1, 0)),
                         "world 1 start 0 blind no\nstate 0 mark 0 live 0 due no\nto 0 - 0\n")
        self.assertEqual(printed(Demand(1, 1, [[]], [0])), "demand 1 outs 1\nstarts 0 0\nstate 0\n")
        self.assertEqual(printed(perfect(1)), "demand 1 outs 2\nstarts 0 0\nstate 0\nmark 0 to 0 0\nmark 1 to 0 x\n")

    def test_all_heard_nodes_are_told(self):
        self.assertEqual(printed(losses_world(4, 0)).split("\n")[2], "to 0 1,2,3 0 0,2,3 0 0,1,3 0 0,1,2 0")

    def test_it_has_the_form(self):
        for value in some_values():
            text = printed(value)
            self.assertIsNone(wrong_line(text))
            self.assertTrue(text.endswith("\n"))

    def test_wrong_values(self):
        for wrong in JUNK + (WORLD_TEXT, WORLD.states, 7, (WORLD,), [DEMAND]):
            self.assertEqual(error_of(printed, wrong), ("BadValue", 1), repr(wrong)[:80])


class Parse(unittest.TestCase):

    def test_there_and_back(self):
        for value in some_values():
            found = parse(printed(value))
            self.assertIs(type(found), type(value))
            self.assertTrue(found == value)
            self.assertEqual(printed(found), printed(value))

    def test_by_hand(self):
        self.assertEqual(parse(WORLD_TEXT), WORLD)
        self.assertEqual(parse(DEMAND_TEXT), DEMAND)
        self.assertNotEqual(parse(WORLD_TEXT.replace("blind yes", "blind no")), WORLD)

    def test_texts_that_end_too_soon(self):
        for text, at in (("", 0), ("world 1 start 0 blind no", 0), ("world 1 start 0 blind no\n", 1),
                         ("demand 1 outs 1", 0),
                         ("demand 1 outs 1\n", 1), ("demand 1 outs 1\nstarts 0 0", 1),
                         ("demand 1 outs 1\nstarts 0 0\n", 2),
                         ("demand 1 outs 1\nstarts 0 0\nstate 0", 2), ("\n", 0), (" \n", 0), ("x", 0),
                         (WORLD_TEXT[:-1], 8), (DEMAND_TEXT[:-1], 5), (WORLD_TEXT + "x", 9), (WORLD_TEXT + " ", 9),
                         (WORLD_TEXT + "\n", 9), ("\n" + WORLD_TEXT, 0), (DEMAND_TEXT + "\n", 6), (DEMAND_TEXT * 2, 6),
                         (WORLD_TEXT + DEMAND_TEXT, 9)):
            self.assertEqual(error_of(parse, text), ("BadSyntax", at), text)
            self.assertEqual(wrong_line(text), at)
        for text in (WORLD_TEXT, DEMAND_TEXT):
            for end in range(len(text)):
                told = wrong_line(text[:end])
                if told is not None:
                    self.assertEqual(error_of(parse, text[:end]), ("BadSyntax", told), text[:end])

    def test_changed_words(self):
        changes = (("world 2", "world 02", 0), ("world 2", "world 5", 0), ("world 2", "world 0", 0),
                   ("world 2", "world", 0),
                   ("world 2", "World 2", 0), ("world 2", "world  2", 0), ("world 2", " world 2", 0),
                   ("world 2", "world +2", 0), ("world 2", "world 22", 0), ("start 0", "start -0", 0),
                   ("start 0", "start 00", 0), ("start 0", "start 1234567890", 0), ("start 0", "begin 0", 0),
                   ("blind yes", "blind Yes", 0), ("blind yes", "blind 1", 0), ("blind yes", "blind yes ", 0),
                   ("state 0", "state 1", 1), ("state 0", "state 00", 1), ("state 0", "states 0", 1),
                   ("mark 10", "mark 010", 1), ("mark 10", "mark -1", 1), ("mark 10", "mark 1000000000", 1),
                   ("live 0,1", "live 0, 1", 1), ("live 0,1", "live 0,,1", 1), ("live 0,1", "live ,0,1", 1),
                   ("live 0,1", "live 0,1,", 1), ("live 0,1", "live 0,x", 1), ("live 0,1", "live x", 1),
                   ("live 0,1", "live 0,-", 1), ("live 0,1", "live", 1), ("live 0,1", "live 0,01", 1),
                   ("due yes", "due y", 1), ("due yes", "due yes no", 1), ("to 1 x x 0", "to -1 x x 0", 2),
                   ("to 1 x x 0", "to 01 x x 0", 2), ("to 1 x x 0", "to 1 x x x", 2), ("to 1 x x 0", "to 1 x 0 0", 2),
                   ("to 1 x x 0", "to 1 0 x 0", 2), ("to 1 x x 0", "to 1 x x 0 0", 2), ("to 1 x x 0", "to 1 x 0", 2),
                   ("to 1 x x 0", "to  1 x x 0", 2), ("to 1 x x 0", "to 1 x x 0,", 2), ("to 1 x x 0", "to 1 X X 0", 2),
                   ("0 -17", "0 -017", 2), ("0 -17", "0 -0", 2), ("0 -17", "0 --17", 2), ("0 -17", "0 +17", 2),
                   ("0 -17", "0 -", 2), ("0 -17", "0 -1234567890", 2), ("0 -17", "0 17.0", 2), ("0 -17", "0 -17 ", 2),
                   ("- 0", "-1 0", 3), ("- 0", "- 00", 3), ("1000", "1e3", 3), ("1000", "1_000", 3),
                   ("state 1", "state 2", 4), ("state 1", "mark 1", 4), ("state 1 mark 0 live 1 due no", "state 1", 4),
                   ("state 2", "state 1", 7), ("to 2 x x x x\nstate", "\nstate", 6))
        for old, new, at in changes:
            self.check(WORLD_TEXT, old, new, at)
        changes = (("demand 2", "demand 6", 0), ("demand 2", "demands 2", 0), ("outs 12", "outs", 0),
                   ("outs 12", "outs 012", 0), ("outs 12", "outs -12", 0), ("outs 12", "outs 1234567890", 0),
                   ("starts 0", "start 0", 1), ("starts 0 1 0,1 0", "starts 0 1 0,1", 1),
                   ("starts 0 1 0,1 0", "starts 0 1 0,1 0 0", 1), ("starts 0 1", "starts 0  1", 1),
                   ("starts 0 1", "starts 0 -", 1), ("starts 0 1", "starts 0 x", 1), ("starts 0 1", "starts 0 01", 1),
                   ("starts 0 1", "starts 0 -1", 1), ("0,1 0\n", "0,1 \n", 1), ("starts 0 1 0,1 0\n", "", 1),
                   ("state 0", "state 0 ", 2), ("state 0", "state 1", 2), ("state 0\n", "", 2),
                   ("mark 3", "mark -3", 3),
                   ("mark 3 to 1", "mark 3 to", 3), ("mark 3 to 1", "to 1 mark 3", 3),
                   ("mark 3 to 1", "mark 3 to 01", 3),
                   ("0,11 x", "0,11 -", 3), ("0,11 x", "0,11", 3), ("0,11 x", "0,11 x x", 3), ("0,11 x", "0,11 x,0", 3),
                   ("0,11 x", "0;11 x", 3), ("0,11 x", "0,1234567890 x", 3), ("5 0,1,2", "5 0,1,02", 4),
                   ("5 0,1,2", "5  0,1,2", 4), ("state 1\n", "state 2\n", 5), ("state 1\n", "state 1\n\n", 6))
        for old, new, at in changes:
            self.check(DEMAND_TEXT, old, new, at)

    def check(self, text, old, new, at):
        self.assertIn(old, text)
        wrong = text.replace(old, new, 1)
        self.assertEqual(error_of(parse, wrong), ("BadSyntax", at), wrong)
        self.assertEqual(wrong_line(wrong), at)
        # The first wrong line is told, whatever stands behind it, and whatever its values are.
        self.assertEqual(error_of(parse, wrong + "nonsense\n"), ("BadSyntax", at))
        self.assertEqual(error_of(parse, wrong[:-1] + "!"), ("BadSyntax", at))

    def test_texts_by_chance(self):
        source = random.Random(41)
        texts = [printed(value) for value in some_values()]
        texts = [text for text in texts if len(text) < 1500]
        signs = "0123456789,- xyesnotomarklive\n"
        found = {True: 0, False: 0}
        for _ in range(4000):
            text = source.choice(texts)
            for _ in range(source.randint(1, 2)):
                at = source.randrange(len(text) + 1)
                text = text[:at] + source.choice((source.choice(signs), "")) + text[at + source.randint(0, 1):]
            told = wrong_line(text)
            error = error_of(parse, text)
            if told is not None:
                self.assertEqual(error, ("BadSyntax", told), text)
            elif error is not None:
                self.assertIn(error[0], ("BadValue", "BadState", "BadRow"))
            found[told is None] += 1
        self.assertGreater(min(found.values()), 300)

    def test_right_texts_with_wrong_values(self):
        for old, new, error in (("start 0", "start 3", ("BadValue", 3)),
                                ("start 0", "start 999999999", ("BadValue", 3)),
                                ("mark 10", "mark 10001", ("BadState", 0)), ("live 0,1", "live 1,0", ("BadState", 0)),
                                ("live 0,1", "live 0,0", ("BadState", 0)), ("live 0,1", "live 0,2", ("BadState", 0)),
                                ("live 0,1", "live -", ("BadState", 0)), ("0 -17", "0 -1001", ("BadState", 0)),
                                ("1 1000", "1 999999999", ("BadState", 0)),
                                ("to 1 x x 0", "to 9 x x 0", ("BadState", 0)),
                                ("to 1 x x 0", "to 1 x x -", None), ("to 1 x x 0", "to 1 x x 1", ("BadState", 0)),
                                ("to 1 x x 0 -17", "to 1 - 0 0 -17", ("BadState", 0)), ("- 5", "0 5", ("BadState", 1)),
                                ("to 2 x x x x\nstate 2", "to 1 x x - 5\nstate 2", ("BadState", 1)),
                                ("no\nto 2 x x x x\n", "no\n", ("BadState", 2))):
            self.assertIn(old, WORLD_TEXT)
            text = WORLD_TEXT.replace(old, new, 1)
            self.assertIsNone(wrong_line(text))
            self.assertEqual(error_of(parse, text), error, text)
        for old, new, error in (("outs 12", "outs 0", ("BadValue", 2)), ("outs 12", "outs 17", ("BadValue", 2)),
                                ("outs 12", "outs 11", ("BadRow", 0)), ("starts 0", "starts 2", ("BadValue", 4)),
                                ("0,1 0\n", "1,0 0\n", ("BadValue", 4)), ("0,1 0\n", "1,1 0\n", ("BadValue", 4)),
                                ("mark 10000", "mark 10001", ("BadRow", 0)), ("to 1", "to 2", ("BadRow", 0)),
                                ("0,11", "11,0", ("BadRow", 0)), ("0,11", "0,0", ("BadRow", 0)),
                                ("0,11 x", "x x", None),
                                ("state 1\n", "state 1\nmark 0 to 5 0 0\n", ("BadRow", 1)),
                                ("state 1\n", "state 1\nmark 0 to 0 0 0\nmark 0 to 0 0 0\n", ("BadRow", 1))):
            self.assertIn(old, DEMAND_TEXT)
            text = DEMAND_TEXT.replace(old, new, 1)
            self.assertIsNone(wrong_line(text))
            self.assertEqual(error_of(parse, text), error, text)

    def test_numbers_of_9_and_10_digits(self):
        text = "world 1 start 0 blind no\nstate 0 mark 0 live 0 due no\nto 0 - {}\n"
        for hint, error in (("123456789", ("BadState", 0)), ("-123456789", ("BadState", 0)), ("1000", None),
                            ("-1000", None),
                            ("1234567890", ("BadSyntax", 2)), ("-1234567890", ("BadSyntax", 2)),
                            ("-0", ("BadSyntax", 2))):
            self.assertEqual(error_of(parse, text.format(hint)), error)

    def test_400_states_and_2000_moves_and_more(self):
        live = "".join(f"state {number} mark 0 live - due no\nto 0 x x\n" for number in range(400))
        text = "world 1 start 0 blind no\n"
        self.assertEqual(len(parse(text + live)), 400)
        more = "state 400 mark 0 live - due no\n"
        self.assertEqual(error_of(parse, text + live + more), ("TooMany", "states"))
        self.assertEqual(error_of(parse, text + live + more + "to 0 x\n"), ("BadSyntax", 802))
        moves = "".join(f"to 0 - {hint}\n" for hint in range(-1000, 1000))
        state = "state 0 mark 0 live 0 due no\n"
        self.assertEqual(len(parse(text + state + moves).states[0][3]), 2000)
        self.assertEqual(error_of(parse, text + state + moves + "to 0 - 1000\n"), ("TooMany", "moves"))
        head = "demand 1 outs 1\nstarts 0 0\n"
        states = "".join(f"state {number}\n" for number in range(400))
        self.assertEqual(len(parse(head + states).states), 400)
        self.assertEqual(error_of(parse, head + states + "state 400\n"), ("TooMany", "states"))
        rows = "".join(f"mark {mark} to 0 0\n" for mark in range(2000))
        self.assertEqual(len(parse(head + "state 0\n" + rows).states[0]), 2000)
        self.assertEqual(error_of(parse, head + "state 0\n" + rows + "mark 2000 to 0 0\n"), ("TooMany", "rows"))

    def test_wrong_arguments(self):
        for wrong in JUNK + (5, WORLD, DEMAND, [WORLD_TEXT], WORLD_TEXT.split("\n")):
            if isinstance(wrong, str):
                self.assertEqual(error_of(parse, wrong), ("BadSyntax", 0))
            else:
                self.assertEqual(error_of(parse, wrong), ("BadValue", 1), repr(wrong)[:80])


if __name__ == "__main__":
    unittest.main()
