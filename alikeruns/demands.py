"""Demands, and whether a run keeps them. [42] [43]"""

from alikeruns.bounds import MOST_NODES, MOST_OUTS, MOST_STATES
from alikeruns.checks import is_number, is_row, is_sequence
from alikeruns.errors import BadValue, TooMany
from alikeruns.reading import Reader
from alikeruns.rows import checked_rows, plain_starts
from alikeruns.runs import checked_run, states_of


class Demand:
    """A machine that reads what the nodes output in each round."""

    def __init__(self, nodes, outs, states, starts):
        if not is_number(nodes, 1, MOST_NODES):
            raise BadValue(1)
        if not is_number(outs, 1, MOST_OUTS):
            raise BadValue(2)
        if not is_sequence(states) or len(states) == 0:
            raise BadValue(3)
        if len(states) > MOST_STATES:
            raise TooMany("states")
        plain = checked_rows(nodes, outs, states)
        for_all = plain_starts(nodes, len(plain), starts)
        if for_all is None:
            raise BadValue(4)
        self.nodes = nodes
        self.outs = outs
        self.states = plain
        self.starts = for_all

    def __eq__(self, other):
        return (isinstance(other, Demand) and self.nodes == other.nodes and self.outs == other.outs
                and self.states == other.states and self.starts == other.starts)


def keeps(world, run, demand, outputs):
    """Whether a run keeps the demand with these outputs at its times from 1 on. [43]"""
    inputs, moves = checked_run(world, run)
    check_nodes(world, demand)
    states = states_of(world, (inputs, moves))
    if not is_row(outputs, len(moves)):
        raise BadValue(4)
    for state, row in zip(states[1:], outputs):
        if not _are_outputs(demand, world.states[state][1], row):
            raise BadValue(4)
    allowed = [tuple([0 if output is None else 1 << output for output in row]) for row in outputs]
    reader = Reader(world, demand)
    return reader.keeps(reader.starts_for(inputs), states, allowed)


def is_plain_demand(value):
    """Whether value is a demand all of whose starts are the same."""
    return isinstance(value, Demand) and value.starts.count(value.starts[0]) == len(value.starts)


def check_nodes(world, demand):
    """BadValue(3) unless a world and a demand have the same number of nodes."""
    if world.nodes != demand.nodes:
        raise BadValue(3)


def _are_outputs(demand, live, row):
    """Whether row has an output for each live node, and None for every other one."""
    if not is_row(row, demand.nodes):
        return False
    return all([is_number(output, 0, demand.outs - 1) if node in live else output is None
                for node, output in enumerate(row)])
