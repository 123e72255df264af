"""Whether a refutation holds. [45]"""

from alikeruns.cases import case_of
from alikeruns.checks import is_row
from alikeruns.demands import check_nodes
from alikeruns.errors import BadRun
from alikeruns.reading import Reader
from alikeruns.runs import checked_run
from alikeruns.sightings import Sightings


def refutation_holds(world, rounds, demand, tree):
    """Whether the value tree is a refutation that holds. [45]"""
    sightings = Sightings(world, rounds)
    check_nodes(world, demand)
    return Way(world, rounds, demand, sightings.views).is_refuted(tree)


class Way:
    """A way down a tree: outputs has, as bits, the output of the branch taken for each sight that was asked.

    For each other sight that can be asked it has all of them.
    """

    def __init__(self, world, rounds, demand, views):
        self.world = world
        self.rounds = rounds
        self.outs = demand.outs
        self.views = views
        self.reader = Reader(world, demand)
        self.asked = {}
        self.outputs = {number: (1 << demand.outs) - 1 for number in views.later_numbers()}
        self.cases = {}

    def is_refuted(self, tree):
        """Whether the tree refutes all tables with the outputs taken so far."""
        if is_row(tree, 3) and tree[0] == "ask":
            return self._are_refuted(self.views.number_of(tree[1]), tree[2])
        return is_row(tree, 2) and tree[0] == "broken" and self._is_broken(tree[1])

    def _are_refuted(self, number, branches):
        """Whether a sight can be asked here, and each branch refutes the tables with its output for it."""
        if number not in self.outputs or number in self.asked or not is_row(branches, self.outs):
            return False
        everything = self.outputs[number]
        self.asked[number] = True
        for output, branch in enumerate(branches):
            self.outputs[number] = 1 << output
            if not self.is_refuted(branch):
                return False
        self.outputs[number] = everything
        del self.asked[number]
        return True

    def _is_broken(self, run):
        """Whether run is a run that does not keep the demand with the outputs taken so far."""
        try:
            checked = checked_run(self.world, run)
        except BadRun:
            return False
        if not 1 <= len(checked[1]) <= self.rounds:
            return False
        if checked not in self.cases:
            self.cases[checked] = case_of(self.world, self.views, self.reader, checked)
        case = self.cases[checked]
        return not self.reader.keeps(case.starts, case.states, case.allowed(self.outputs))
