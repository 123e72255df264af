"""What is looked at of a run if it is to keep a demand."""

from alikeruns.runs import states_of


class Case:
    """A run: the demand states at its start, its states at all times, and its sights at the times from 1 on.

    seen has, for each of these times, the numbers of the sights of all nodes,
    None for one that is not live; bits has the bits of all these numbers. The
    run itself is the example of what cannot be told apart from it.
    """

    def __init__(self, example, starts, states, seen):
        self.example = example
        self.starts = starts
        self.states = states
        self.seen = seen
        self.bits = sum([1 << number for numbers in seen for number in numbers if number is not None])

    def allowed(self, outputs):
        """For each time from 1 on the outputs of each node, as bits; the dict outputs has them for each sight."""
        return [tuple([0 if number is None else outputs[number] for number in numbers]) for numbers in self.seen]


def all_cases(sightings, reader):
    """The cases of all runs; of runs that neither the demand nor any sight tells apart, just of the first one."""
    found = {}
    for run, states, history in zip(sightings.runs, sightings.states, sightings.histories):
        starts = reader.starts_for(run[0])
        seen = history[1:]
        key = (starts, tuple([reader.labels[state] for state in states[1:]]), seen)
        if key not in found:
            found[key] = Case(run, starts, states, seen)
    return [found[key] for key in found]


def case_of(world, views, reader, run):
    """The case of one run."""
    inputs, moves = run
    states = states_of(world, run)
    history = [views.at_start(world, inputs)]
    for state, number in zip(states, moves):
        history.append(views.after_move(history[-1], world.states[state][3][number]))
    return Case(run, reader.starts_for(inputs), states, history[1:])
