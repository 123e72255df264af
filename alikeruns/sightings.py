"""All runs of a length, and the sights in them by numbers."""

from alikeruns.checks import is_sequence
from alikeruns.errors import BadValue
from alikeruns.runs import all_inputs, check_few_runs
from alikeruns.views import Views


class Sightings:
    """All runs of rounds moves, ascending, and for each its history: at each time the sights of all nodes.

    Every shorter run is the beginning of one of these, so that they show
    every sight that occurs within rounds. An earlier sight has a lesser number.
    states has, for each run, the numbers of its states at all times.
    """

    def __init__(self, world, rounds):
        check_few_runs(world, rounds)
        self.views = Views()
        self.due = {}
        rows = [((inputs, ()), (world.start,), (self.views.at_start(world, inputs),)) for inputs in all_inputs(world)]
        self._keep_due(world, rows)
        for _ in range(rounds):
            rows = [self._row_later(row, number, move) for row in rows
                    for number, move in enumerate(world.states[row[1][-1]][3])]
            self._keep_due(world, rows)
        self.runs = tuple([row[0] for row in rows])
        self.states = tuple([row[1] for row in rows])
        self.histories = tuple([row[2] for row in rows])

    def runs_with(self, asked):
        """For each sight that is asked for, the places of the runs that show it, ascending."""
        found = {number: [] for number in asked}
        for place, history in enumerate(self.histories):
            for seen in history:
                for number in seen:
                    if number in found:
                        found[number].append(place)
        return found

    def last_sights(self):
        """The sights at the last time of all runs, as the keys of a dict."""
        return {number: True for history in self.histories for number in history[-1] if number is not None}

    def all_alike(self, place, value):
        """Whether all inputs of the run at a place are this value."""
        inputs, _ = self.runs[place]
        return inputs.count(value) == len(inputs)

    def _row_later(self, row, number, move):
        (inputs, moves), states, history = row
        return ((inputs, moves + (number,)), states + (move[2],), history + (self.views.after_move(history[-1], move),))

    def _keep_due(self, world, rows):
        for _, states, history in rows:
            if world.states[states[-1]][2]:
                for number in history[-1]:
                    if number is not None:
                        self.due[number] = True


def asked_sights(sightings, sights, at):
    """The numbers of the sights passed, of those that are due for None, as the keys of a dict; BadValue(at)."""
    if sights is None:
        return sightings.due
    if not is_sequence(sights):
        raise BadValue(at)
    found = {}
    for value in sights:
        number = sightings.views.number_of(value)
        if number is None:
            raise BadValue(at)
        found[number] = True
    return found
