"""Which values are the same, whatever they are. [27]"""

from alikeruns.checks import is_sequence


class Sames:
    """Gives each value a number: two values are the same exactly if their numbers are.

    A list is the same as the tuple of the same elements; no bool is the same
    as an integer.
    """

    def __init__(self):
        self.numbers = {}

    def number_for(self, value):
        """The number of a value, a new one if no value so far is the same."""
        if is_sequence(value):
            return self._kept(tuple([self.number_for(part) for part in value]))
        # As a key True would be 1; their texts differ.
        return self._kept(repr(value))

    def _kept(self, key):
        return self.numbers.setdefault(key, len(self.numbers))
