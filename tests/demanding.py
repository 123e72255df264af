"""What the document says of facts and demands, written down once more, slowly and in other ways."""

import random
from itertools import product

from alikeruns.demands import Demand
from tests import reference
from tests.agreeing import runs_within
from tests.reference import integer, plain, seq


def depth(fact):
    """How deep a fact is, 0 if the value is none, whatever the world. [40]"""
    if not seq(fact) or not fact or not isinstance(fact[0], str):
        return 0
    parts = [depth(part) for part in fact[1:]]
    if (fact[0], len(fact)) in (("not", 2), ("both", 3)):
        return 1 + max(parts) if all(parts) else 0
    if not all(integer(x) for x in fact[1:]):
        return 0
    return 1 if (fact[0], len(fact)) in (("input", 3), ("any", 2), ("live", 2), ("mark", 2)) else 0


def fits_world(world, fact):
    """Whether the numbers in a fact are as told."""
    if fact[0] in ("not", "both"):
        return all(fits_world(world, part) for part in fact[1:])
    return {"input": lambda: fact[1] in range(world.nodes) and fact[2] in (0, 1), "any": lambda: fact[1] in (0, 1),
            "live": lambda: fact[1] in range(world.nodes), "mark": lambda: True}[fact[0]]()


def is_fact_told(world, value):
    return 1 <= depth(value) <= 8 and fits_world(world, value)


def true_in(world, run, fact):
    """Whether a fact holds at the last time of a run. [40]"""
    state, _ = reference.taken(world, run, len(run[1]))
    tests = {"not": lambda a: not true_in(world, run, a),
             "both": lambda a, b: true_in(world, run, a) and true_in(world, run, b),
             "input": lambda node, value: run[0][node] == value,
             "any": lambda value: any(told == value for told in run[0]),
             "live": lambda node: node in state[1],
             "mark": lambda mark: mark == state[0]}
    return tests[fact[0]](*fact[1:])


def alike_runs(world, run, node):
    """All runs of the run's length that look alike to a node at the end, asked of what it got."""
    time = len(run[1])
    return [other for other in reference.all_runs(world, time) if reference.look_alike(world, run, other, node, time)]


def linked_runs(world, run):
    """For each run that is linked to the run, by how many steps. [41]"""
    steps, fresh = {run: 0}, [run]
    while fresh:
        later = []
        for one in fresh:
            for node in range(world.nodes):
                for other in alike_runs(world, one, node):
                    if other not in steps:
                        steps[other] = steps[one] + 1
                        later.append(other)
        fresh = later
    return steps


def some_facts(world):
    """Facts of each kind, and nested ones."""
    marks = sorted({state[0] for state in world.states})
    facts = [("any", 0), ["any", 1], ("mark", marks[-1]), ("mark", marks[0]), ("mark", -5)]
    facts += [("input", node, value) for node in range(world.nodes) for value in (0, 1)]
    facts += [("live", node) for node in range(world.nodes)]
    facts += [("not", fact) for fact in facts[:9]]
    facts += [("both", facts[0], facts[1]), ("not", ("both", ("not", ("any", 0)), ["live", 0]))]
    facts += [("both", ("not", ("input", 0, 1)), ("not", ("not", ("mark", marks[0]))))]
    return facts


def demand_error(nodes, outs, states, starts):
    """The class and the argument of the error of Demand, None if there is none. [42]"""
    if not (integer(nodes) and 1 <= nodes <= 4):
        return ("BadValue", 1)
    if not (integer(outs) and 1 <= outs <= 16):
        return ("BadValue", 2)
    if not (seq(states) and states):
        return ("BadValue", 3)
    if len(states) > 400:
        return ("TooMany", "states")
    for number, rows in enumerate(states):
        if seq(rows) and len(rows) > 2000:
            return ("TooMany", "rows")
        if not (seq(rows) and all(row_as_told(nodes, outs, len(states), row) for row in rows)
                and len({repr(plain(row)) for row in rows}) == len(rows)):
            return ("BadRow", number)
    one = box_as_told(len(states), starts)
    if not one and not (seq(starts) and len(starts) == 2 ** nodes
                        and all(box_as_told(len(states), told) for told in starts)):
        return ("BadValue", 4)
    return None


def box_as_told(many, box):
    return reference.ascending_nodes(box, many) and len(box) > 0


def row_as_told(nodes, outs, many, row):
    return (seq(row) and len(row) == 3 and integer(row[0]) and 0 <= row[0] <= 10000
            and seq(row[1]) and len(row[1]) == nodes and all(box is None or box_as_told(outs, box) for box in row[1])
            and integer(row[2]) and 0 <= row[2] < many)


def way(inputs):
    """The number of the way to give inputs: asked of the ways one by one. [42]"""
    return [i for i in range(2 ** len(inputs))
            if all(i // 2 ** node % 2 == value for node, value in enumerate(inputs))][0]


def kept(world, run, demand, outputs):
    """Whether a run keeps a demand: every row of demand states is followed by itself. [43]"""
    if not run[1]:
        return True

    def goes_on(number, time):
        if time > len(run[1]):
            return True
        state, _ = reference.taken(world, run, time)
        for mark, boxes, to in demand.states[number]:
            fits = mark == state[0] and all(
                output in box if box is not None and node in state[1] else box is None and node not in state[1]
                for node, (box, output) in enumerate(zip(boxes, outputs[time - 1])))
            if fits and goes_on(to, time + 1):
                return True
        return False
    return any(goes_on(number, 1) for number in demand.starts[way(run[0])])


def places_of(world, run):
    """The texts of the sights of a run at times from 1 on, by node and time."""
    found = {}
    for time in range(1, len(run[1]) + 1):
        for node in range(world.nodes):
            told = reference.sight_of(world, run, node, time)
            if told is not None:
                found[(node, time)] = repr(told)
    return found


def outputs_at(world, run, places, chosen):
    """The outputs of a run with these places, of which chosen has the one of each text of a sight."""
    return [[chosen[places[(node, time)]] if (node, time) in places else None for node in range(world.nodes)]
            for time in range(1, len(run[1]) + 1)]


def outputs_in(world, run, chosen):
    return outputs_at(world, run, places_of(world, run), chosen)


def can_be_kept(world, run, places, demand, chosen):
    """Whether a run keeps a demand with the chosen outputs and some ones for all other sights: all are tried."""
    free = sorted(set(places.values()) - set(chosen))
    return any(kept(world, run, demand, outputs_at(world, run, places, {**chosen, **dict(zip(free, tried))}))
               for tried in product(range(demand.outs), repeat=len(free)))


def asked_texts(world, rounds):
    """The texts of all sights of times from 1 on that occur within rounds."""
    return sorted({text for run in runs_within(world, rounds) for text in places_of(world, run).values()})


def open_outputs(world, rounds, demand):
    """For each sight the outputs that are open. [44]"""
    runs = [(run, places_of(world, run)) for run in reference.all_runs(world, rounds)]
    return {text: [output for output in range(demand.outs)
                   if all(can_be_kept(world, run, places, demand, {text: output})
                          for run, places in runs if text in places.values())]
            for text in asked_texts(world, rounds)}


def works(world, rounds, demand, table):
    """Whether a table keeps a demand, asked run by run. [44]"""
    chosen = {repr(plain(told)): output for told, output in table}
    for run in runs_within(world, rounds):
        places = places_of(world, run)
        for text in places.values():
            if text not in chosen or chosen[text] not in range(demand.outs):
                return False
        if not kept(world, run, demand, outputs_at(world, run, places, chosen)):
            return False
    return True


def some_table_works(world, rounds, demand, opened):
    """Whether some table keeps a demand: all tables of open outputs are tried, sight after sight."""
    texts = sorted(opened, key=lambda text: (len(opened[text]), text))
    runs = [(run, places_of(world, run)) for run in reference.all_runs(world, rounds) if rounds]
    if not all(can_be_kept(world, run, places, demand, {}) for run, places in runs if not places):
        return False

    def from_here(chosen, at):
        if at == len(texts):
            return True
        for output in opened[texts[at]]:
            chosen[texts[at]] = output
            whole = [(run, places) for run, places in runs if texts[at] in places.values()
                     and all(text in chosen for text in places.values())]
            if all(kept(world, run, demand, outputs_at(world, run, places, chosen)) for run, places in whole):
                if from_here(chosen, at + 1):
                    return True
            del chosen[texts[at]]
        return False
    return from_here({}, 0)


def refutes(world, rounds, demand, tree):
    """Whether a value is a refutation that holds: at its ends all outputs that were not asked are tried. [45]"""
    return refutes_here(world, rounds, demand, set(asked_texts(world, rounds)), tree, {})


def refutes_here(world, rounds, demand, texts, tree, chosen):
    if not seq(tree) or not tree or not isinstance(tree[0], str):
        return False
    if tree[0] == "broken" and len(tree) == 2:
        run = plain(tree[1])
        if reference.run_error(world, run) is not None or not 1 <= len(run[1]) <= rounds:
            return False
        places = places_of(world, run)
        mine = {text: output for text, output in chosen.items() if text in places.values()}
        return not can_be_kept(world, run, places, demand, mine)
    if tree[0] == "ask" and len(tree) == 3 and seq(tree[2]) and len(tree[2]) == demand.outs:
        text = repr(plain(tree[1]))
        return text not in chosen and text in texts and all(
            refutes_here(world, rounds, demand, texts, branch, {**chosen, text: output})
            for output, branch in enumerate(tree[2]))
    return False


def end_of(tree, chosen):
    """The run at the end to which the outputs of a table lead, and the sights that are asked on the way."""
    asked = []
    while tree[0] == "ask":
        asked.append(repr(plain(tree[1])))
        tree = tree[2][chosen[asked[-1]]]
    return tree[1], asked


def ends_of(tree):
    """How many ends a tree has."""
    return 1 if tree[0] == "broken" else sum(ends_of(branch) for branch in tree[2])


def anything(nodes, outs, marks=(0,), lives=None):
    """The demand that every output keeps, for worlds with these marks and live nodes."""
    rows = []
    for mark in marks:
        for live in lives or [tuple(range(nodes))]:
            rows.append((mark, tuple(tuple(range(outs)) if node in live else None for node in range(nodes)), 0))
    return Demand(nodes, outs, [rows], [0])


def agreement_demand(world, rounds):
    """The demand that in the last round all live nodes output one input, and 2 in all rounds before it."""
    labels = sorted({(state[0], state[1]) for state in world.states})
    states = []
    for value in (0, 1):
        for time in range(rounds):
            box, to = ((value,), 2 * rounds) if time == rounds - 1 else ((2,), value * rounds + time + 1)
            states.append([(mark, tuple(box if node in live else None for node in range(world.nodes)), to)
                           for mark, live in labels])
    states.append(())
    starts = [sorted({rounds * (i // 2 ** node % 2) for node in range(world.nodes)}) for i in range(2 ** world.nodes)]
    return Demand(world.nodes, 3, states, starts)


def random_box(source, outs):
    return sorted(source.sample(range(outs), source.randint(1, outs)))


def random_demand(source, world, most_states=3, most_outs=3, most_rows=8, plain_starts=False):
    """A demand whose rows fit states of the world now and then, as lists."""
    outs = source.randint(1, most_outs)
    many = source.randint(1, most_states)
    states = []
    for _ in range(many):
        rows = []
        for _ in range(source.randint(1, most_rows)):
            mark, live, _, _ = source.choice(world.states)
            row = [mark, [random_box(source, outs) if node in live else None for node in range(world.nodes)],
                   source.randrange(many)]
            if source.random() < 0.05:
                row[1][source.randrange(world.nodes)] = None
            if row not in rows:
                rows.append(row)
        states.append(rows)
    if plain_starts or source.random() < 0.5:
        return Demand(world.nodes, outs, states, random_box(source, many))
    return Demand(world.nodes, outs, states, [random_box(source, many) for _ in range(2 ** world.nodes)])


def dense_demand(source, world, most_states=2, most_outs=3, most_share=0.6):
    """A demand that has rows for all states of the world, with one output in each box: each run for itself keeps it."""
    outs = source.randint(2, most_outs)
    many = source.randint(1, most_states)
    share = source.uniform(0.05, most_share)
    labels = sorted({(state[0], state[1]) for state in world.states})
    states = []
    for _ in range(many):
        rows = []
        for mark, live in labels:
            all_told = list(product(range(outs), repeat=len(live)))
            first = source.choice(all_told)
            for told in all_told:
                boxes = [None] * world.nodes
                for node, output in zip(live, told):
                    boxes[node] = [output]
                if told == first or source.random() < share:
                    rows.append([mark, boxes, source.randrange(many)])
        states.append(rows)
    return Demand(world.nodes, outs, states, random_box(source, many))


def random_case(seed, worlds):
    """A demand by chance, for one of some pairs of a world and a number of rounds."""
    source = random.Random(seed)
    if seed % 2 == 0:
        world, rounds = source.choice(worlds)
        return world, rounds, random_demand(source, world)
    world, rounds = source.choice(worlds[len(worlds) // 2:])
    return world, rounds, dense_demand(source, world)
