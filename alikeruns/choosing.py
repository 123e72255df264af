"""The search for outputs with which every run keeps a demand, or for a refutation. [44] [45]"""


class Choosing:
    """Outputs that are chosen for sights, one sight after the other.

    Sets of outputs and of sights are the bits of integers. outputs has the
    chosen output of a sight, or all of them as long as none is chosen. left
    has the outputs with which each case for itself can still be kept; of each
    other output of a sight, broken has a run that it breaks, and the chosen
    sights in this run. taken has what was left before, to go back to.
    """

    def __init__(self, reader, cases, sights, outs):
        self.reader = reader
        self.cases = cases
        self.outs = outs
        self.sights = sights
        self.outputs = {number: (1 << outs) - 1 for number in sights}
        self.left = {number: (1 << outs) - 1 for number in sights}
        self.broken = {}
        self.chosen = 0
        self.taken = []
        self.loose = {number: [] for number in sights}

    def look_at_all(self):
        """Leave only what keeps each case for itself; a run that cannot be kept at all, None if there is none."""
        lost = None
        for case in self.cases:
            supports = self._supports(case)
            if supports is None:
                lost = case.example
                supports = [(0,) * len(numbers) for numbers in case.seen]
            self._leave(case, supports)
            for number, mask in _sights_with(case, supports):
                # With one output at most, choosing it changes nothing in this case.
                if mask & (mask - 1) > 0:
                    self.loose[number].append(case)
        return lost

    def count_tables(self):
        """The numbers of the outputs that are left for each sight, multiplied, with 1 in place of 0."""
        many = 1
        for number in self.sights:
            many = many * max(1, self._how_many_left(number))
        return many

    def output_of(self, number):
        """The output that is chosen for a sight."""
        return self.outputs[number].bit_length() - 1

    def refuted(self):
        """None if outputs are now chosen for all sights with which all cases are kept.

        Otherwise a refutation, and the bits of the chosen sights that it needs.
        """
        number = self._tightest()
        if number is None:
            return None
        branches = []
        needed = 0
        for output in range(self.outs):
            found = self._tried(number, output)
            if found is None:
                return None
            tree, needs = found
            # A refutation that does not hang on this output is one without it.
            if (needs >> number) & 1 == 0:
                return found
            branches.append(tree)
            needed = needed | needs
        return (("ask", self.sights[number], tuple(branches)), needed - (1 << number))

    def _tried(self, number, output):
        """What refuted returns if this output is chosen; if not None, nothing is chosen any more."""
        if not self._is_left(number, output):
            run, needs = self.broken[(number, output)]
            return (("broken", run), needs | (1 << number))
        many = len(self.taken)
        everything = self.outputs[number]
        self.outputs[number] = 1 << output
        self.chosen = self.chosen | (1 << number)
        for case in self.loose[number]:
            if case.bits & ~self.chosen != 0:
                self._leave(case, self._supports(case))
        found = self.refuted()
        if found is not None:
            self._go_back(many)
            self.outputs[number] = everything
            self.chosen = self.chosen - (1 << number)
        return found

    def _tightest(self):
        """The sight without an output that has fewest left, None if all have one."""
        best = None
        for number in self.sights:
            if (self.chosen >> number) & 1 == 0:
                many = self._how_many_left(number)
                if best is None or many < best[0]:
                    best = (many, number)
        return None if best is None else best[1]

    def _how_many_left(self, number):
        return len([output for output in range(self.outs) if self._is_left(number, output)])

    def _is_left(self, number, output):
        return (self.left[number] >> output) & 1 == 1

    def _supports(self, case):
        return self.reader.supports(case.starts, case.states, case.allowed(self.outputs))

    def _leave(self, case, supports):
        """Leave only what keeps the case."""
        for number, mask in _sights_with(case, supports):
            gone = self.left[number] & ~mask
            if gone != 0 and (self.chosen >> number) & 1 == 0:
                self.taken.append((number, self.left[number]))
                self.left[number] = self.left[number] - gone
                for output in range(self.outs):
                    if (gone >> output) & 1 == 1:
                        self.broken[(number, output)] = (case.example, case.bits & self.chosen)

    def _go_back(self, many):
        """Give back what was taken, but for the first many times."""
        while len(self.taken) > many:
            number, before = self.taken.pop()
            self.left[number] = before


def _sights_with(case, supports):
    """The pairs of a sight of a case and the outputs with which the case is kept."""
    return [(number, mask) for numbers, masks in zip(case.seen, supports)
            for number, mask in zip(numbers, masks) if number is not None]
