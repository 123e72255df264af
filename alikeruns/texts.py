"""Worlds and demands as texts. [55] to [57]"""

from alikeruns.demands import Demand
from alikeruns.errors import BadSyntax, BadValue
from alikeruns.forms import read_line
from alikeruns.worlds import World

WORLD = ("world", "<nodes>", "start", "<number>", "blind", "<yes or no>")
STATE = ("state", "<number>", "mark", "<number>", "live", "<list or ->", "due", "<yes or no>")
DEMAND = ("demand", "<nodes>", "outs", "<number>")
DEMAND_STATE = ("state", "<number>")


def printed(value):
    """The text of a world or a demand. [57]"""
    if isinstance(value, World):
        return _text(_world_lines(value))
    if isinstance(value, Demand):
        return _text(_demand_lines(value))
    raise BadValue(1)


def parse(text):
    """The world or the demand of a text. [57]"""
    if not isinstance(text, str):
        raise BadValue(1)
    lines = text.split("\n")
    # Behind the last line feed stands nothing, unless the text goes on without one.
    rest = lines.pop()
    if lines and lines[0].startswith("demand"):
        return _parsed_demand(lines, rest)
    return _parsed_world(lines, rest)


def _text(lines):
    return "".join([f"{line}\n" for line in lines])


def _listed(numbers):
    """Numbers, separated by commas."""
    return ",".join([str(number) for number in numbers])


def _listed_or_none(numbers):
    return _listed(numbers) if numbers else "-"


def _yes_or_no(value):
    return "yes" if value else "no"


def _world_lines(world):
    lines = [f"world {world.nodes} start {world.start} blind {_yes_or_no(world.blind)}"]
    for number, (mark, live, due, moves) in enumerate(world.states):
        lines.append(f"state {number} mark {mark} live {_listed_or_none(live)} due {_yes_or_no(due)}")
        lines.extend([_move_line(move) for move in moves])
    return lines


def _move_line(move):
    heard, hints, to = move
    words = ["to", str(to)]
    for others, hint in zip(heard, hints):
        if others is None:
            words.extend(["x", "x"])
        else:
            words.extend([_listed_or_none(others), str(hint)])
    return " ".join(words)


def _demand_lines(demand):
    lines = [f"demand {demand.nodes} outs {demand.outs}"]
    lines.append(" ".join(["starts"] + [_listed(starts) for starts in demand.starts]))
    for number, rows in enumerate(demand.states):
        lines.append(f"state {number}")
        for mark, boxes, to in rows:
            words = ["x" if box is None else _listed(box) for box in boxes]
            lines.append(" ".join(["mark", str(mark), "to", str(to)] + words))
    return lines


def _parsed_world(lines, rest):
    nodes, start, blind = _read_head(lines, 0, WORLD)
    states = _read_states(lines, rest, 1, STATE, nodes)
    return World(nodes, [(mark, live, due, moves) for (_, mark, live, due), moves in states], start, blind=blind)


def _parsed_demand(lines, rest):
    nodes, outs = _read_head(lines, 0, DEMAND)
    starts = _read_head(lines, 1, ("starts",) + ("<list>",) * (1 << nodes))
    states = _read_states(lines, rest, 2, DEMAND_STATE, nodes)
    return Demand(nodes, outs, [rows for _, rows in states], starts)


def _read_head(lines, at, form):
    """The values of the line at a place ahead of the states."""
    read = read_line(lines[at], form) if at < len(lines) else None
    if read is None:
        raise BadSyntax(at)
    return read


def _read_states(lines, rest, first, form, nodes):
    """For each state, from the first line on, the pair of its values and its moves or rows."""
    states = []
    for at in range(first, len(lines)):
        state = read_line(lines[at], form)
        row = _read_move(lines[at], nodes) if form == STATE else _read_row(lines[at], nodes)
        if state is not None and state[0] == len(states):
            states.append((state, []))
        elif row is not None and states:
            rows = states[-1][1]
            rows.append(row)
        else:
            raise BadSyntax(at)
    if rest != "" or not states:
        raise BadSyntax(len(lines))
    return states


def _read_move(line, nodes):
    """The move of a line, None if it does not have the form of one."""
    read = read_line(line, ("to", "<number>") + ("<heard>", "<hint>") * nodes)
    if read is None:
        return None
    heard = read[1::2]
    hints = read[2::2]
    for others, hint in zip(heard, hints):
        if (others is None) != (hint is None):
            return None
    return (heard, hints, read[0])


def _read_row(line, nodes):
    """The row of a line, None if it does not have the form of one."""
    read = read_line(line, ("mark", "<number>", "to", "<number>") + ("<box>",) * nodes)
    return None if read is None else (read[0], read[2:], read[1])
