"""Tables, which say at which sight a node outputs what. [44]"""

from alikeruns.checks import is_integer, is_row, is_sequence
from alikeruns.errors import BadValue
from alikeruns.sames import Sames


def table_outputs(views, table, at):
    """The outputs of a table by the numbers of those of its sights that have one; BadValue(at) if it is no table."""
    if not is_sequence(table):
        raise BadValue(at)
    outputs = {}
    sames = Sames()
    others = set()
    for pair in table:
        if not is_row(pair, 2) or not is_integer(pair[1]):
            raise BadValue(at)
        number = views.number_of(pair[0])
        other = sames.number_for(pair[0]) if number is None else None
        if number in outputs or other in others:
            raise BadValue(at)
        if number is None:
            others.add(other)
        else:
            outputs[number] = pair[1]
    return outputs
