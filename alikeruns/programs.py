"""Programs for agreement, and the runs in which they fail. [29] [31] [35]"""

from alikeruns.checks import is_number, is_row, is_sequence
from alikeruns.errors import BadValue
from alikeruns.sames import Sames
from alikeruns.sightings import Sightings, asked_sights


def failing_run(world, rounds, program, *, sights=None):
    """None if the program is right and decides at the sights, otherwise a run and what fails in it. [35]"""
    sightings = Sightings(world, rounds)
    values = program_values(sightings, program)
    return first_failure(sightings, values, asked_sights(sightings, sights, 4))


def program_values(sightings, program):
    """The values of a program, by the numbers of those of its sights that occur; BadValue(3) if it is none."""
    if not is_sequence(program):
        raise BadValue(3)
    sames = Sames()
    values = {}
    others = {}
    for pair in program:
        if not is_row(pair, 2) or not is_number(pair[1], 0, 1):
            raise BadValue(3)
        number = sightings.views.number_of(pair[0])
        if number is None:
            number = sames.number_for(pair[0])
            kept = others
        else:
            kept = values
        if number in kept:
            raise BadValue(3)
        kept[number] = pair[1]
    return values


def first_failure(sightings, values, asked):
    """The first run in which a program fails, with what fails there; None if there is none."""
    for run, history in zip(sightings.runs, sightings.histories):
        failure = _failure(run[0], history, values, asked)
        if failure is not None:
            word, places = failure
            return (run, word, places)
    return None


def _failure(inputs, history, values, asked):
    """A pair of a word and the places at which a program fails in a run; None if it does not."""
    times = _times_decided(history, values)
    late = _undecided(history, times, asked)
    if late is not None:
        return ("undecided", (late,))
    places = sorted(times.items())
    decided = [values[history[time][node]] for node, time in places]
    for place, value in zip(places, decided):
        if value not in inputs:
            return ("invalid", (place,))
        if value != decided[0]:
            return ("unlike", (places[0], place))
    return None


def _times_decided(history, values):
    """For each node that decides in a run, the time at which it does."""
    times = {}
    for time, seen in enumerate(history):
        for node, number in enumerate(seen):
            if number in values and node not in times:
                times[node] = time
    return times


def _undecided(history, times, asked):
    """The first place of a run at which a node has an asked sight and has not decided; None if there is none."""
    for time, seen in enumerate(history):
        for node, number in enumerate(seen):
            if number in asked and (node not in times or times[node] > time):
                return (node, time)
    return None
