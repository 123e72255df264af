"""Tables that keep a demand, and runs in which tables fail. [44] [46]"""

from alikeruns.bounds import MOST_SIGHTS, MOST_TABLES
from alikeruns.cases import all_cases
from alikeruns.choosing import Choosing
from alikeruns.demands import check_nodes
from alikeruns.errors import TooMany
from alikeruns.reading import Reader
from alikeruns.sightings import Sightings
from alikeruns.tables import table_outputs


def make(world, rounds, demand):
    """A table that keeps the demand, or a refutation. [44]"""
    sightings = Sightings(world, rounds)
    check_nodes(world, demand)
    return made(world, sightings, demand)


def made(world, sightings, demand):
    """A table that keeps the demand, or a refutation; sightings has the runs of the world."""
    views = sightings.views
    numbers = views.later_numbers()
    if len(numbers) > MOST_SIGHTS:
        raise TooMany("sights")
    reader = Reader(world, demand)
    sights = {number: views.sights[number] for number in numbers}
    choosing = Choosing(reader, all_cases(sightings, reader), sights, demand.outs)
    lost = choosing.look_at_all()
    if choosing.count_tables() > MOST_TABLES:
        raise TooMany("sights")
    if lost is not None:
        return ("refutation", ("broken", lost))
    found = choosing.refuted()
    if found is not None:
        return ("refutation", found[0])
    return ("table", tuple([(views.sights[number], choosing.output_of(number)) for number in numbers]))


def broken_run(world, rounds, demand, table):
    """None if the table keeps the demand within rounds, otherwise a run in which it fails, and where. [46]"""
    sightings = Sightings(world, rounds)
    check_nodes(world, demand)
    outputs = table_outputs(sightings.views, table, 4)
    allowed = {number: 1 << output for number, output in outputs.items() if 0 <= output < demand.outs}
    for run, history in zip(sightings.runs, sightings.histories):
        place = _not_in(allowed, history)
        if place is not None:
            return (run, place)
    reader = Reader(world, demand)
    for case in all_cases(sightings, reader):
        if not reader.keeps(case.starts, case.states, case.allowed(allowed)):
            return (case.example, None)
    return None


def _not_in(allowed, history):
    """The first place of a run, from time 1 on, whose sight has no output; None if there is none."""
    for time, seen in enumerate(history[1:], start=1):
        for node, number in enumerate(seen):
            if number is not None and number not in allowed:
                return (node, time)
    return None
