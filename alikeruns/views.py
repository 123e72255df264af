"""Sights by numbers."""

from alikeruns.checks import is_integer, is_sequence


class Views:
    """Gives each sight a number: two sights are the same exactly if their numbers are.

    A late sight is nested too deep for a key of a dict, so a sight is kept
    under the numbers of the sights in it. befores has the number of what the
    same node saw one round earlier, None at time 0.
    """

    def __init__(self):
        self.numbers = {}
        self.sights = []
        self.befores = []

    def at_start(self, world, inputs):
        """For each node the number of its sight at time 0, None if it is not live."""
        live = world.states[world.start][1]
        return tuple([self.first(node, inputs[node]) if node in live else None
                      for node in range(world.nodes)])

    def after_move(self, before, move):
        """For each node the number of its sight after the move, None if it is not live."""
        heard, hints, _ = move
        found = []
        for node, others in enumerate(heard):
            if others is None:
                found.append(None)
            else:
                found.append(self.later(before[node], hints[node], tuple([before[other] for other in others])))
        return tuple(found)

    def number_of(self, value):
        """The number of the sight that any value is, None if it is none that has got a number."""
        if not is_sequence(value):
            return None
        if len(value) == 2 and is_integer(value[0]) and is_integer(value[1]):
            return self.numbers.get((value[0], value[1]))
        if len(value) == 3 and is_integer(value[1]) and is_sequence(value[2]):
            heard = tuple([self.number_of(other) for other in value[2]])
            return self.numbers.get((self.number_of(value[0]), value[1], heard))
        return None

    def later_numbers(self):
        """The numbers of all sights of times from 1 on."""
        return [number for number, before in enumerate(self.befores) if before is not None]

    def first(self, node, value):
        """The number of a sight at time 0, a new one if it has none yet."""
        key = (node, value)
        if key not in self.numbers:
            self._keep(key, key, None)
        return self.numbers[key]

    def later(self, before, hint, heard):
        """The number of the sight that has sights of these numbers and a hint in it, a new one if it has none yet."""
        key = (before, hint, heard)
        if key not in self.numbers:
            told = tuple([self.sights[number] for number in heard])
            self._keep(key, (self.sights[before], hint, told), before)
        return self.numbers[key]

    def _keep(self, key, told, before):
        self.numbers[key] = len(self.sights)
        self.sights.append(told)
        self.befores.append(before)
