"""Sights by numbers."""


class Views:
    """Gives each sight a number: two sights are the same exactly if their numbers are.

    A late sight is nested too deep for a key of a dict, so a sight is kept
    under the numbers of the sights in it.
    """

    def __init__(self):
        self.numbers = {}
        self.sights = []

    def at_start(self, world, inputs):
        """For each node the number of its sight at time 0, None if it is not live."""
        live = world.states[world.start][1]
        return tuple([self._first(node, inputs[node]) if node in live else None
                      for node in range(world.nodes)])

    def after_move(self, before, move):
        """For each node the number of its sight after the move, None if it is not live."""
        heard, hints, _ = move
        found = []
        for node, others in enumerate(heard):
            if others is None:
                found.append(None)
            else:
                found.append(self._later(before[node], hints[node], tuple([before[other] for other in others])))
        return tuple(found)

    def _first(self, node, value):
        key = (node, value)
        if key not in self.numbers:
            self._keep(key, key)
        return self.numbers[key]

    def _later(self, before, hint, heard):
        key = (before, hint, heard)
        if key not in self.numbers:
            told = tuple([self.sights[number] for number in heard])
            self._keep(key, (self.sights[before], hint, told))
        return self.numbers[key]

    def _keep(self, key, told):
        self.numbers[key] = len(self.sights)
        self.sights.append(told)
