"""How a demand reads what the nodes output in a run. [43]"""


class Reader:
    """Reads runs of a world with all demand states that are possible at a time.

    These are kept as ascending tuples, a set of outputs as the bits of an
    integer. The outputs that are allowed at one time are a tuple of such bits
    for the nodes, 0 for a node that is not live. What a state of the world
    asks of a row is its label: its mark and its live nodes.
    """

    def __init__(self, world, demand):
        self.labels = [(mark, live) for mark, live, _, _ in world.states]
        self.demand = demand
        self.grouped = {}
        self.afters = {}
        self.backs = {}

    def starts_for(self, inputs):
        """The demand states in which the demand may start with these inputs."""
        return self.demand.starts[sum([value << node for node, value in enumerate(inputs)])]

    def keeps(self, starts, states, allowed):
        """Whether a run through these states of the world can keep the demand with allowed outputs."""
        return len(self._possible(starts, states, allowed)[-1]) > 0

    def supports(self, starts, states, allowed):
        """For each time from 1 on the allowed outputs of each node with which the run can keep the demand.

        None if there is no way to keep it.
        """
        possible = self._possible(starts, states, allowed)
        ends = possible[-1]
        if len(ends) == 0:
            return None
        found = []
        for time in range(len(allowed), 0, -1):
            masks, ends = self._back(possible[time - 1], states[time], allowed[time - 1], ends)
            found.append(masks)
        return found[::-1]

    def _possible(self, starts, states, allowed):
        """For each time the demand states in which the demand can be."""
        possible = [starts]
        for time, masks in enumerate(allowed, start=1):
            possible.append(self._after(possible[-1], states[time], masks))
        return possible

    def _after(self, before, state, masks):
        """The demand states that can stand behind those of before, in a state of the world."""
        key = (before, self.labels[state], masks)
        if key not in self.afters:
            self.afters[key] = tuple(sorted({to for _, _, to in self._steps(before, state, masks)}))
        return self.afters[key]

    def _back(self, before, state, masks, ends):
        """With which outputs, and from which demand states of before, one of ends can be reached."""
        key = (before, self.labels[state], masks, ends)
        if key not in self.backs:
            ending = set(ends)
            steps = [(number, used) for number, used, to in self._steps(before, state, masks) if to in ending]
            found = [0] * len(masks)
            for _, used in steps:
                found = [have | more for have, more in zip(found, used)]
            self.backs[key] = (tuple(found), tuple(sorted({number for number, _ in steps})))
        return self.backs[key]

    def _steps(self, before, state, masks):
        """The rows that fit: triples of the demand state, the allowed outputs in the boxes, and the next one."""
        label = self.labels[state]
        steps = []
        for number in before:
            for boxes, to in self._rows(number, label):
                used = [box & mask for box, mask in zip(boxes, masks)]
                if all([bits > 0 or box == 0 for bits, box in zip(used, boxes)]):
                    steps.append((number, used, to))
        return steps

    def _rows(self, number, label):
        """The rows of a demand state that fit a label, as pairs of boxes and the next demand state."""
        if number not in self.grouped:
            self.grouped[number] = _by_labels(self.demand.states[number])
        return self.grouped[number].get(label, [])


def _by_labels(rows):
    """For each label the pairs of boxes, as bits, and the next demand state."""
    found = {}
    for mark, boxes, to in rows:
        live = tuple([node for node, box in enumerate(boxes) if box is not None])
        found.setdefault((mark, live), []).append(([_bits(box) for box in boxes], to))
    return found


def _bits(box):
    """The outputs of a box as the bits of an integer; 0 for None."""
    return 0 if box is None else sum([1 << output for output in box])
