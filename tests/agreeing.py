"""What the document says of agreement, written down once more, slowly and in other ways."""

from itertools import product

from tests import reference
from tests.reference import integer, plain, seq


def runs_within(world, rounds):
    """All runs of at most so many moves."""
    return [run for time in range(rounds + 1) for run in reference.all_runs(world, time)]


class Book:
    """The sights of all runs of at most so many moves, each kept by its text."""

    def __init__(self, world, rounds):
        self.world = world
        self.rounds = rounds
        self.runs = runs_within(world, rounds)
        self.sights = {}
        self.seen = {}
        for run in self.runs:
            places = {}
            for time in range(len(run[1]) + 1):
                for node in range(world.nodes):
                    told = reference.sight_of(world, run, node, time)
                    if told is not None:
                        places[(node, time)] = repr(told)
                        self.sights[repr(told)] = told
            self.seen[run] = places

    def due(self):
        return [repr(told) for told in reference.due_of(self.world, self.rounds)]

    def texts(self, sights):
        """The texts of sights that are passed, of the due ones for None."""
        return self.due() if sights is None else [repr(plain(told)) for told in sights]

    def values(self, program):
        return {repr(plain(told)): value for told, value in program}

    def decided(self, run, values):
        """For each node that decides in a run, the time and the value."""
        found = {}
        for node, time in sorted(self.seen[run], key=lambda place: place[1]):
            if node not in found and self.seen[run][(node, time)] in values:
                found[node] = (time, values[self.seen[run][(node, time)]])
        return found

    def failures(self, run, values, asked):
        """Everything that fails in a run, as pairs of a word and places. [35]"""
        decided = self.decided(run, values)
        found = []
        for node, time in self.seen[run]:
            if self.seen[run][(node, time)] in asked and decided.get(node, (time + 1, 0))[0] > time:
                found.append(("undecided", ((node, time),)))
        for one in decided:
            if decided[one][1] not in run[0]:
                found.append(("invalid", ((one, decided[one][0]),)))
            for other in decided:
                if one < other and decided[one][1] != decided[other][1]:
                    found.append(("unlike", ((one, decided[one][0]), (other, decided[other][0]))))
        return found

    def works(self, values, asked):
        """Whether a program is right and decides at the sights. [31]"""
        asked = set(asked)
        return not any(self.failures(run, values, asked) for run in self.runs)

    def some_works(self, asked):
        """Whether some right program decides at the sights: all values for them are tried.

        A right program gives each of them one value, by then, so that the program of
        just these values is right as well.
        """
        asked = sorted(set(asked))
        return any(self.works(dict(zip(asked, values)), asked) for values in product((0, 1), repeat=len(asked)))

    def neighbours(self, asked):
        """For each run the runs that look alike to a node at one of the sights. [33]"""
        asked = set(asked)
        shown = {}
        for run in self.runs:
            for text in self.seen[run].values():
                if text in asked:
                    shown.setdefault(text, set()).add(run)
        return {run: set().union(*(shown[text] for text in self.seen[run].values() if text in asked))
                for run in self.runs}

    def fewest(self, asked):
        """How many runs the shortest chains that hold have, None if there is none: found step by step."""
        near = self.neighbours(asked)
        reached = {run for run in self.runs if set(run[0]) == {0}}
        many = 1
        while not any(set(run[0]) == {1} for run in reached):
            more = reached.union(*(near[run] for run in reached))
            if more == reached:
                return None
            reached, many = more, many + 1
        return many

    def beats(self, one, other):
        """Whether the one program beats the other, asked run by run. [38]"""
        if not self.works(one, ()):
            return False
        sooner = False
        for run in self.runs:
            mine, yours = self.decided(run, one), self.decided(run, other)
            for node in yours:
                if node not in mine or mine[node][0] > yours[node][0]:
                    return False
            sooner = sooner or any(node not in yours or mine[node][0] < yours[node][0] for node in mine)
        return sooner

    def all_programs(self):
        """Every program of sights that occur, right or not."""
        texts = sorted(self.sights)
        for choice in product((None, 0, 1), repeat=len(texts)):
            yield {text: value for text, value in zip(texts, choice) if value is not None}

    def could_be_added(self, values):
        """The sights by which their nodes have not decided, and that make no chain with those of the program."""
        found = []
        for text, told in self.sights.items():
            beginnings = [told]
            while len(beginnings[-1]) == 3:
                beginnings.append(beginnings[-1][0])
            undecided = not any(repr(before) in values for before in beginnings)
            if undecided and self.fewest(list(values) + [text]) is None:
                found.append(text)
        return found


def chain_as_told(world, rounds, chain, sights):
    """Whether a value is a chain that holds, asked of what the nodes got. [33]"""
    if not (seq(chain) and len(chain) == 2 and seq(chain[0]) and seq(chain[1])):
        return False
    runs, links = chain
    if len(runs) != len(links) + 1 or any(reference.run_error(world, run) is not None for run in runs):
        return False
    if any(len(run[1]) > rounds for run in runs) or set(runs[0][0]) != {0} or set(runs[-1][0]) != {1}:
        return False
    asked = {repr(plain(told)) for told in sights}
    for one, other, link in zip(runs, runs[1:], links):
        if not (seq(link) and len(link) == 2 and integer(link[0]) and integer(link[1])):
            return False
        node, time = link
        if node not in range(world.nodes) or time not in range(min(len(one[1]), len(other[1])) + 1):
            return False
        if not reference.look_alike(world, one, other, node, time):
            return False
        if repr(reference.sight_of(world, one, node, time)) not in asked:
            return False
    return True
