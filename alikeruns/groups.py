"""Groups of runs in which the same value has to be decided."""


class Groups:
    """Runs in groups, at first each alone; no group gets runs of inputs 0 only and runs of inputs 1 only.

    above leads from each run to the one that stands for its group; of that
    one, only_zeros and only_ones tell whether the group has such a run.
    """

    def __init__(self, sightings):
        places = range(len(sightings.runs))
        self.above = list(places)
        self.only_zeros = [sightings.all_alike(place, 0) for place in places]
        self.only_ones = [sightings.all_alike(place, 1) for place in places]

    def unite(self, places):
        """Make one group of the groups of some runs, unless it would have both; whether this is done."""
        tops = sorted({self._top(place) for place in places})
        zeros = any([self.only_zeros[top] for top in tops])
        ones = any([self.only_ones[top] for top in tops])
        if zeros and ones:
            return False
        for top in tops:
            self.above[top] = tops[0]
        self.only_zeros[tops[0]] = zeros
        self.only_ones[tops[0]] = ones
        return True

    def _top(self, place):
        while self.above[place] != place:
            self.above[place] = self.above[self.above[place]]
            place = self.above[place]
        return place
