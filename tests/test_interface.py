"""The interface: names, arguments, and the file in which each is defined."""

import inspect
import unittest

from alikeruns import (agreement, chains, console, demands, detectors, errors, hints, keen, knowledge, making,
                       programs, refuting, runs, sights, texts, worlds)

FUNCTIONS = (
    (worlds, "stops_world", "(nodes, most, *, blind=False)"),
    (worlds, "losses_world", "(nodes, most, *, blind=False)"),
    (worlds, "hears_world", "(nodes, least, *, blind=False)"),
    (worlds, "with_due", "(world, dues)"),
    (worlds, "stops_due", "(nodes, most)"),
    (worlds, "with_marks", "(world, pairs)"),
    (runs, "count_runs", "(world, rounds)"),
    (runs, "runs", "(world, rounds)"),
    (runs, "states_of", "(world, run)"),
    (sights, "sight", "(world, run, node, time)"),
    (sights, "alike", "(world, one, other, node, time)"),
    (sights, "due_sights", "(world, rounds)"),
    (agreement, "agree", "(world, rounds, *, sights=None)"),
    (agreement, "fewest_rounds", "(world, most)"),
    (chains, "chain_holds", "(world, rounds, chain, *, sights=None)"),
    (programs, "failing_run", "(world, rounds, program, *, sights=None)"),
    (keen, "keen", "(world, rounds, *, sights=None)"),
    (keen, "beater", "(world, rounds, program)"),
    (knowledge, "is_fact", "(world, value)"),
    (knowledge, "holds", "(world, run, fact)"),
    (knowledge, "knows", "(world, run, node, fact)"),
    (knowledge, "link", "(world, one, other)"),
    (knowledge, "common", "(world, run, fact)"),
    (demands, "keeps", "(world, run, demand, outputs)"),
    (making, "make", "(world, rounds, demand)"),
    (making, "broken_run", "(world, rounds, demand, table)"),
    (refuting, "refutation_holds", "(world, rounds, demand, tree)"),
    (detectors, "perfect", "(nodes)"),
    (detectors, "cautious", "(nodes)"),
    (detectors, "complete", "(nodes)"),
    (detectors, "trusting", "(nodes)"),
    (detectors, "leaders", "(nodes, wait)"),
    (detectors, "late", "(detector, wait)"),
    (hints, "with_hints", "(world, detector)"),
    (hints, "makes", "(world, rounds, one, other)"),
    (hints, "changed", "(sight, table)"),
    (hints, "composed", "(world, rounds, first, second)"),
    (hints, "order", "(world, rounds, detectors)"),
    (texts, "printed", "(value)"),
    (texts, "parse", "(text)"),
)

CLASSES = (
    (worlds, "World", "(nodes, states, start, *, blind=False)"),
    (console, "Console", "()"),
    (demands, "Demand", "(nodes, outs, states, starts)"),
    (errors, "BadValue", "(at)"),
    (errors, "BadState", "(at)"),
    (errors, "BadRow", "(at)"),
    (errors, "BadRun", "(at)"),
    (errors, "BadSyntax", "(at)"),
    (errors, "BadLine", "(at)"),
    (errors, "TooMany", "(word)"),
)


class Interface(unittest.TestCase):

    def test_functions_have_their_names_and_arguments_in_their_files(self):
        for module, name, arguments in FUNCTIONS:
            function = getattr(module, name)
            self.assertTrue(inspect.isfunction(function), name)
            self.assertEqual(function.__module__, module.__name__, name)
            self.assertEqual(str(inspect.signature(function)), arguments, name)

    def test_classes_have_their_names_and_arguments_in_their_files(self):
        for module, name, arguments in CLASSES:
            kind = getattr(module, name)
            self.assertTrue(inspect.isclass(kind), name)
            self.assertEqual(kind.__module__, module.__name__, name)
            self.assertEqual(str(inspect.signature(kind)), arguments, name)
        self.assertEqual(errors.NodesError.__module__, "alikeruns.errors")

    def test_the_methods_of_classes_are_defined_in_them(self):
        for name in ("__init__", "__eq__", "__len__"):
            self.assertIn(name, vars(worlds.World))
        for name in ("__init__", "__eq__"):
            self.assertIn(name, vars(demands.Demand))
        for name, arguments in (("run", "(self, line)"), ("log", "(self)"), ("replayed", "(log)")):
            self.assertIn(name, vars(console.Console))
            self.assertEqual(str(inspect.signature(getattr(console.Console, name))), arguments)
        self.assertIsInstance(vars(console.Console)["replayed"], (staticmethod, classmethod))

    def test_arguments_may_be_passed_by_name(self):
        world = worlds.stops_world(nodes=2, most=1, blind=True)
        self.assertEqual(world, worlds.stops_world(2, 1, blind=True))
        self.assertEqual(worlds.World(nodes=2, states=world.states, start=0, blind=True), world)
        self.assertEqual(len(worlds.losses_world(nodes=2, most=0, blind=False)), 1)
        self.assertEqual(len(worlds.hears_world(nodes=2, least=0, blind=False)), 1)
        self.assertEqual(worlds.stops_due(nodes=1, most=0), ((0, 1),))
        due = worlds.with_due(world=world, dues=((0, 0),))
        self.assertEqual(worlds.with_marks(world=due, pairs=()), due)
        self.assertEqual(runs.count_runs(world=world, rounds=0), 1)
        self.assertEqual(runs.runs(world=world, rounds=0), (((0, 0), ()),))
        run = ((0, 0), (0,))
        self.assertEqual(runs.states_of(world=world, run=run), (0, 0))
        self.assertEqual(sights.sight(world=world, run=run, node=1, time=0), (1, 0))
        self.assertTrue(sights.alike(world=world, one=run, other=run, node=1, time=1))
        self.assertEqual(sights.due_sights(world=due, rounds=0), ((0, 0), (1, 0)))
        program = (((0, 0), 0), ((1, 0), 0))
        asked = ((0, 0), (1, 0))
        self.assertEqual(agreement.agree(world=due, rounds=0, sights=asked), ("program", program))
        self.assertEqual(agreement.fewest_rounds(world=due, most=1), (0, program, ()))
        self.assertFalse(chains.chain_holds(world=due, rounds=0, chain=None, sights=asked))
        self.assertIsNone(programs.failing_run(world=due, rounds=0, program=program, sights=asked))
        self.assertEqual(keen.keen(world=due, rounds=0, sights=asked), ("program", program))
        self.assertIsNone(keen.beater(world=due, rounds=0, program=program))

    def test_arguments_of_facts_and_demands_may_be_passed_by_name(self):
        world = worlds.losses_world(nodes=1, most=0, blind=True)
        run, fact = ((0,), (0,)), ("any", 0)
        self.assertTrue(knowledge.is_fact(world=world, value=fact))
        self.assertTrue(knowledge.holds(world=world, run=run, fact=fact))
        self.assertTrue(knowledge.knows(world=world, run=run, node=0, fact=fact))
        self.assertEqual(knowledge.link(world=world, one=run, other=run), ((run,), ()))
        self.assertTrue(knowledge.common(world=world, run=run, fact=fact))
        demand = demands.Demand(nodes=1, outs=1, states=[[(0, ((0,),), 0)]], starts=[0])
        self.assertTrue(demands.keeps(world=world, run=run, demand=demand, outputs=[[0]]))
        table = ((((0, 0), 0, ()), 0),)
        self.assertEqual(making.make(world=world, rounds=1, demand=demand), ("table", table))
        self.assertIsNone(making.broken_run(world=world, rounds=1, demand=demand, table=table))
        self.assertFalse(refuting.refutation_holds(world=world, rounds=1, demand=demand, tree=None))

    def test_arguments_of_detectors_hints_and_texts_may_be_passed_by_name(self):
        world = worlds.losses_world(nodes=1, most=0, blind=True)
        one = detectors.leaders(nodes=1, wait=0)
        for call in (detectors.perfect, detectors.cautious, detectors.complete, detectors.trusting):
            self.assertEqual(call(nodes=1).outs, 2)
        self.assertEqual(detectors.late(detector=one, wait=0), one)
        self.assertEqual(len(hints.with_hints(world=world, detector=one)), 2)
        self.assertTrue(hints.makes(world=world, rounds=1, one=one, other=one))
        told = ((0, 0), 0, ())
        table = ((told, 0),)
        self.assertEqual(hints.changed(sight=told, table=table), told)
        self.assertEqual(hints.composed(world=world, rounds=1, first=table, second=table), table)
        self.assertEqual(hints.order(world=world, rounds=1, detectors=[one]), ((True,),))
        self.assertEqual(texts.parse(text=texts.printed(value=one)), one)
        kept = console.Console()
        self.assertEqual(kept.run(line="stops w 1 0"), "ok")
        self.assertEqual(console.Console.replayed(log=kept.log()).log(), "stops w 1 0\n")

    def test_arguments_behind_the_star_are_passed_by_name_only(self):
        for call, arguments in ((worlds.World, (1, [(0, (0,), False, [([()], [0], 0)])], 0, True)),
                                (worlds.stops_world, (1, 1, True)), (worlds.losses_world, (1, 1, True)),
                                (worlds.hears_world, (1, 0, True)),
                                (agreement.agree, (worlds.losses_world(1, 0), 0, ())),
                                (chains.chain_holds, (worlds.losses_world(1, 0), 0, (), ())),
                                (programs.failing_run, (worlds.losses_world(1, 0), 0, (), ())),
                                (keen.keen, (worlds.losses_world(1, 0), 0, ()))):
            call(*arguments[:-1])
            with self.assertRaises(TypeError):
                call(*arguments)


if __name__ == "__main__":
    unittest.main()
