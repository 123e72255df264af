"""Points 15, 58 and 59: the console and its log."""

import random
import unittest

from alikeruns.agreement import agree, fewest_rounds
from alikeruns.console import Console
from alikeruns.detectors import cautious, complete, leaders, perfect, trusting
from alikeruns.hints import makes, with_hints
from alikeruns.making import make
from alikeruns.texts import parse, printed
from alikeruns.worlds import hears_world, losses_world, stops_world, with_due
from tests.values import JUNK, error_of

GOOD = ("stops w 2 1", "stops b 2 1 blind", "losses l 2 1", "losses lb 1 0 blind", "hears h 3 1", "hears hb 2 0 blind",
        "stops s 3 1", "due d s 0,1 1,1 2,1 4,1", "due e l", "perfect p 2", "cautious c 2", "complete q 2",
        "trusting t 2", "leaders o 2 1",
        "hints x b p", "hints y w o", "agree d 1", "agree d 2", "agree w 1", "fewest s 2", "fewest lb 0", "fewest w 0",
        "makes b 1 p c", "makes b 1 c p", "make b 1 q", "make b 1 p", "make x 1 p", "show w", "show p", "show x")

# Lines that are right in form, with answers that name errors.
FAILING = (("show nobody", "Unknown"), ("agree p 1", "Unknown"), ("agree nobody 1", "Unknown"),
           ("fewest p 1", "Unknown"),
           ("due a p 0,1", "Unknown"), ("due a nobody", "Unknown"), ("hints a p p", "Unknown"),
           ("hints a w w", "Unknown"),
           ("hints a nobody p", "Unknown"), ("hints a w nobody", "Unknown"), ("makes w 1 p w", "Unknown"),
           ("makes w 9 w p", "Unknown"), ("makes p 1 p p", "Unknown"), ("make w 1 w", "Unknown"),
           ("make p 1 p", "Unknown"),
           ("stops a 5 1", "BadValue"), ("stops w 0 0", "BadValue"), ("stops w 2 3", "BadValue"),
           ("stops a 999999999 1", "BadValue"), ("losses a 2 13", "BadValue"), ("losses a 4 12", "TooMany"),
           ("hears a 2 2", "BadValue"), ("hears a 4 0", "TooMany"), ("hears a 4 0 blind", "TooMany"),
           ("due a w 0,6", "BadValue"), ("due w w 0,1 0,2", "BadValue"), ("hints a h p", "BadValue"),
           ("hints w h p", "BadValue"), ("perfect a 0", "BadValue"), ("cautious p 5", "BadValue"),
           ("complete a 77", "BadValue"), ("trusting a 0", "BadValue"), ("leaders a 2 6", "BadValue"),
           ("leaders a 0 6", "BadValue"), ("agree w 6", "BadValue"), ("agree w 999999999", "BadValue"),
           ("fewest w 5", "BadValue"), ("makes w 6 p p", "BadValue"), ("makes h 1 p p", "BadValue"),
           ("make h 1 p", "BadValue"), ("make b 6 p", "BadValue"), ("make b 1 t", None), ("agree h 5", "TooMany"),
           ("make w 2 q", "TooMany"))

WRONG = ("", " ", "stops", "stops w", "stops w 2", "stops w 2 1 1", "stops w 2 1 blind blind", "stops w 2 1 Blind",
         "stops w 2 1 ", " stops w 2 1", "stops  w 2 1", "stops w  2 1", "stops w 2 1\n", "\nstops w 2 1",
         "Stops w 2 1",
         "stops W 2 1", "stops w1 2 1", "stops w_ 2 1", "stops abcdefghijklm 2 1", "stops 2 2 1", "stops w 02 1",
         "stops w -2 1", "stops w +2 1", "stops w 2 1234567890", "stops w 2 x", "stops w two 1", "stops blind 2 blind",
         "losses w 2", "hears w 2 1 2", "due", "due a", "due a w 0", "due a w 0,1,2", "due a w 0,", "due a w ,1",
         "due a w 0,1 ", "due a w 0,-1", "due a w -1,0", "due a w 0, 1", "due a w 00,1", "due a w 0,1 2", "due a w x,1",
         "due a w 0,1 blind", "hints a w", "hints a w p p", "hints a w 1", "perfect a", "perfect a 2 1", "perfect a p",
         "perfect a 2 blind", "cautious", "complete a 02", "trusting a b", "leaders a 2", "leaders a 2 1 0", "agree w",
         "agree w w", "agree w 1 1", "agree 1 w", "fewest w", "fewest w -1", "makes w p 1 p", "makes w 1 p",
         "makes w 1 p p p", "make w 1", "make w 1 p p", "make 1 w p", "show", "show w w", "show 1", "show W", "log",
         "replayed", "quit", "with_due a w 0,1", "stop w 2 1", "stops,w,2,1", "show\tw", "show w.", "0", "blind")


class Twin:
    """Says what a console has to answer, by names in a dict."""

    makers = {"perfect": perfect, "cautious": cautious, "complete": complete, "trusting": trusting, "leaders": leaders,
              "stops": stops_world, "losses": losses_world, "hears": hears_world}

    def __init__(self):
        self.kept = {}

    def world(self, name):
        if not isinstance(self.kept[name], type(losses_world(1, 0))):
            raise KeyError(name)
        return self.kept[name]

    def demand(self, name):
        if not isinstance(self.kept[name], type(perfect(1))):
            raise KeyError(name)
        return self.kept[name]

    def answer(self, line):
        try:
            return self.done(*line.split(" "))
        except KeyError:
            return "error Unknown"
        except Exception as error:
            return f"error {type(error).__name__}"

    def done(self, word, *rest):
        if word in self.makers:
            blind = {"blind": True} if rest[-1] == "blind" and len(rest) > 3 else {}
            self.kept[rest[0]] = self.makers[word](*[int(x) for x in rest[1:] if x != "blind"], **blind)
        elif word == "due":
            pairs = [tuple(int(x) for x in pair.split(",")) for pair in rest[2:]]
            self.kept[rest[0]] = with_due(self.world(rest[1]), pairs)
        elif word == "hints":
            self.kept[rest[0]] = with_hints(self.world(rest[1]), self.demand(rest[2]))
        else:
            return self.asked(word, *rest)
        return "ok"

    def asked(self, word, name, *rest):
        if word == "show":
            return printed(self.kept[name])
        world = self.world(name)
        if word == "agree":
            told, found = agree(world, int(rest[0]))
            return told if told == "program" else f"chain {len(found[0])}"
        if word == "fewest":
            first = fewest_rounds(world, int(rest[0]))[0]
            return "none" if first is None else str(first)
        demands = [self.demand(other) for other in rest[1:]]
        if word == "makes":
            return "yes" if makes(world, int(rest[0]), *demands) else "no"
        return make(world, int(rest[0]), *demands)[0]


class Run(unittest.TestCase):

    def test_every_command(self):
        console = Console()
        answers = [console.run(line) for line in GOOD]
        self.assertEqual(answers[:16], ["ok"] * 16)
        self.assertEqual(answers[16:27], ["chain 7", "chain 7", "program", "2", "0", "none", "yes", "no", "table",
                                          "refutation", "table"])
        self.assertEqual(answers[27], printed(stops_world(2, 1)))
        self.assertEqual(answers[28], printed(perfect(2)))
        self.assertEqual(answers[29], printed(with_hints(stops_world(2, 1, blind=True), perfect(2))))

    def test_what_it_made_is_shown(self):
        console = Console()
        for line in GOOD:
            console.run(line)
        for name, value in (("w", stops_world(2, 1)), ("b", stops_world(2, 1, blind=True)), ("l", losses_world(2, 1)),
                            ("lb", losses_world(1, 0, blind=True)), ("h", hears_world(3, 1)),
                            ("hb", hears_world(2, 0, blind=True)),
                            ("s", stops_world(3, 1)),
                            ("d", with_due(stops_world(3, 1), ((0, 1), (1, 1), (2, 1), (4, 1)))),
                            ("e", with_due(losses_world(2, 1), ())), ("p", perfect(2)), ("c", cautious(2)),
                            ("q", complete(2)), ("t", trusting(2)), ("o", leaders(2, 1)),
                            ("y", with_hints(stops_world(2, 1), leaders(2, 1)))):
            self.assertEqual(console.run(f"show {name}"), printed(value))
            self.assertEqual(parse(console.run(f"show {name}")), value)

    def test_answers_of_errors_change_nothing(self):
        console = Console()
        for line in GOOD:
            console.run(line)
        before = {name: console.run(f"show {name}") for name in ("w", "b", "l", "h", "p", "a", "nobody")}
        self.assertEqual((before["a"], before["nobody"]), ("error Unknown",) * 2)
        for line, word in FAILING:
            told = console.run(line)
            if word is not None:
                self.assertEqual(told, f"error {word}", line)
            for name in before:
                self.assertEqual(console.run(f"show {name}"), before[name])

    def test_one_set_of_names(self):
        console = Console()
        for line, answer in (("stops a 2 1", "ok"), ("perfect a 3", "ok"), ("agree a 1", "error Unknown"),
                             ("show a", printed(perfect(3))), ("losses a 1 0", "ok"),
                             ("show a", printed(losses_world(1, 0))),
                             ("due a a 0,0", "ok"), ("show a", printed(with_due(losses_world(1, 0), [(0, 0)]))),
                             ("agree a 0", "program"), ("makes a 1 a a", "error Unknown")):
            self.assertEqual(console.run(line), answer)

    def test_names_of_one_and_of_twelve_letters(self):
        console = Console()
        for name in ("a", "z", "abcdefghijkl", "blind", "stops", "show", "yes", "x"):
            self.assertEqual(console.run(f"stops {name} 1 0"), "ok")
            self.assertEqual(console.run(f"stops {name} 1 0 blind"), "ok")
            self.assertEqual(console.run(f"show {name}"), printed(stops_world(1, 0, blind=True)))
            self.assertEqual(console.run(f"due {name} {name}"), "ok")
        for name in ("", "A", "abcdefghijklm", "a1", "a-b", "-", "0", "a,b", "a b c"):
            self.assertEqual(error_of(console.run, f"stops {name} 1 0"), ("BadSyntax", 0))
            self.assertEqual(error_of(console.run, f"show {name}"), ("BadSyntax", 0))

    def test_numbers_of_9_and_10_digits(self):
        console = Console()
        self.assertEqual(console.run("losses a 1 999999999"), "error BadValue")
        self.assertEqual(console.run("stops a 1 0"), "ok")
        self.assertEqual(console.run("due b a 999999999,5"), "ok")
        self.assertEqual(console.run("due b a 5,999999999"), "error BadValue")
        for line in ("losses a 1 1000000000", "due b a 1000000000,5", "due b a 5,1000000000", "agree a 0000000001",
                     "agree a 00"):
            self.assertEqual(error_of(console.run, line), ("BadSyntax", 0))

    def test_lines_of_none_of_the_forms(self):
        console = Console()
        console.run("stops w 2 1")
        console.run("perfect p 2")
        for wrong in WRONG + JUNK + (None, 5, ["show w"], ("show", "w"), b"x".hex(), losses_world(1, 0)):
            self.assertEqual(error_of(console.run, wrong), ("BadSyntax", 0), repr(wrong)[:80])
        self.assertEqual(console.log(), "stops w 2 1\nperfect p 2\n")

    def test_lines_by_chance(self):
        for seed in range(12):
            source = random.Random(seed)
            console, twin = Console(), Twin()
            for line in self.some_lines(source):
                self.assertEqual(console.run(line), twin.answer(line), line)
            self.assertEqual(Console.replayed(console.log()).log(), console.log())

    def some_lines(self, source):
        """Lines of small worlds and demands of two nodes, for a few names."""
        def name():
            return source.choice("abcdefgh")
        for _ in range(60):
            yield source.choice((
                f"stops {name()} {source.randint(0, 2)} {source.randint(0, 2)}", f"stops {name()} 2 1 blind",
                f"losses {name()} 2 {source.randint(0, 1)}{source.choice(('', ' blind'))}", f"hears {name()} 2 1 blind",
                f"due {name()} {name()} 0,{source.randint(0, 7)} 1,1", f"hints {name()} {name()} {name()}",
                f"perfect {name()} 2", f"trusting {name()} {source.randint(1, 2)}", f"complete {name()} 2",
                f"leaders {name()} 2 {source.randint(0, 2)}", f"cautious {name()} 2",
                f"agree {name()} {source.randint(0, 1)}",
                f"fewest {name()} {source.randint(0, 1)}", f"makes {name()} 1 {name()} {name()}",
                f"make {name()} {source.randint(0, 1)} {name()}", f"show {name()}"))


class Log(unittest.TestCase):

    def test_the_lines_that_were_answered(self):
        console = Console()
        self.assertEqual(console.log(), "")
        for line in ("stops w 2 1", "show w", "show v", "stops w 9 9"):
            console.run(line)
            error_of(console.run, "nonsense")
        self.assertEqual(console.log(), "stops w 2 1\nshow w\nshow v\nstops w 9 9\n")

    def test_a_console_that_replays_a_log(self):
        console = Console()
        for line in GOOD + tuple(line for line, _ in FAILING):
            console.run(line)
        again = Console.replayed(console.log())
        self.assertIsInstance(again, Console)
        self.assertEqual(again.log(), console.log())
        lines = list(GOOD[::-1] + GOOD) + [line for line, _ in FAILING]
        lines += [f"show {name}" for name in "abcdehlopqstwxy"]
        for line in lines:
            self.assertEqual(again.run(line), console.run(line))
        for wrong in WRONG:
            self.assertEqual(error_of(again.run, wrong), ("BadSyntax", 0))
        self.assertEqual(again.log(), console.log())

    def test_consoles_are_apart(self):
        console = Console()
        console.run("stops w 2 1")
        again = Console.replayed(console.log())
        again.run("perfect w 1")
        again.run("perfect v 1")
        self.assertEqual(console.run("show v"), "error Unknown")
        self.assertEqual(console.run("show w"), printed(stops_world(2, 1)))
        self.assertEqual(Console().run("show w"), "error Unknown")

    def test_the_empty_log(self):
        again = Console.replayed("")
        self.assertEqual(again.log(), "")
        self.assertEqual(again.run("show w"), "error Unknown")
        # It may be asked for off an object, too.
        self.assertEqual(again.replayed("show w\n").log(), "show w\n")
        self.assertEqual(again.log(), "show w\n")

    def test_wrong_lines(self):
        for log, at in (("show w", 0), ("show w\nshow w", 1), ("nonsense", 0), ("nonsense\n", 0), ("\n", 0),
                        ("show w\n\n", 1), ("show w\n\nshow w\n", 1), ("show w\nshow  w\nnonsense\n", 1),
                        ("show w\nshow w\n ", 2), ("nonsense\nshow w", 0), ("show w\nnonsense\nshow w", 1),
                        ("stops w 2 1\nshow w\nstops w 2", 2), ("stops w 2 1\nshow w\nstops w 2\n", 2),
                        ("show w\r\n", 0)):
            self.assertEqual(error_of(Console.replayed, log), ("BadLine", at), log)

    def test_wrong_arguments(self):
        for wrong in JUNK + (5, ["show w\n"], ("show w",), losses_world(1, 0)):
            if isinstance(wrong, str):
                self.assertEqual(error_of(Console.replayed, wrong), ("BadLine", 0) if wrong else None, repr(wrong)[:80])
            else:
                self.assertEqual(error_of(Console.replayed, wrong), ("BadValue", 1), repr(wrong)[:80])

    def test_lines_that_took_the_place_of_others(self):
        console = Console()
        for line in ("perfect a 1", "stops a 2 0", "due a a 0,1", "perfect a 9", "show a"):
            console.run(line)
        again = Console.replayed(console.log())
        self.assertEqual(again.run("show a"), printed(with_due(stops_world(2, 0), [(0, 1)])))


if __name__ == "__main__":
    unittest.main()
