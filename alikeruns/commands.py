"""The lines that a console answers: their forms, and what they ask for. [58]"""

from alikeruns.agreement import agree, fewest_rounds
from alikeruns.detectors import cautious, complete, leaders, perfect, trusting
from alikeruns.forms import read_line
from alikeruns.hints import makes, with_hints
from alikeruns.making import make
from alikeruns.texts import printed
from alikeruns.worlds import hears_world, losses_world, stops_world, with_due

FAMILIES = ("stops", "losses", "hears")

FORMS = {"stops": ("<new>", "<number>", "<number>"), "losses": ("<new>", "<number>", "<number>"),
         "hears": ("<new>", "<number>", "<number>"), "due": ("<new>", "<world>"),
         "hints": ("<new>", "<world>", "<demand>"), "perfect": ("<new>", "<number>"),
         "cautious": ("<new>", "<number>"), "complete": ("<new>", "<number>"), "trusting": ("<new>", "<number>"),
         "leaders": ("<new>", "<number>", "<number>"), "agree": ("<world>", "<number>"),
         "fewest": ("<world>", "<number>"), "makes": ("<world>", "<number>", "<demand>", "<demand>"),
         "make": ("<world>", "<number>", "<demand>"), "show": ("<world or demand>",)}


def read_command(line):
    """The form of a line, and the values in it; None if it has none of the forms."""
    if not isinstance(line, str):
        return None
    words = line.split(" ")
    if words[0] not in FORMS:
        return None
    form = (words[0],) + FORMS[words[0]]
    if words[0] in FAMILIES and words[-1] == "blind":
        form = form + ("<blind>",)
    if words[0] == "due":
        form = form + ("<pair>",) * (len(words) - len(form))
    found = read_line(line, form)
    return None if found is None else (form, found)


def is_making(word):
    """Whether the lines that begin with a word make a world or a demand."""
    return word in MAKERS


def made_by(word, told):
    """The world or the demand that a line makes; told has the values in it, worlds and demands for their names."""
    maker = MAKERS[word]
    return maker(told)


def answer_to(word, told):
    """The answer to a line that makes nothing; told is as in made_by."""
    asker = ASKERS[word]
    return asker(told)


def _stops(told):
    return stops_world(told[1], told[2], blind=len(told) == 4)


def _losses(told):
    return losses_world(told[1], told[2], blind=len(told) == 4)


def _hears(told):
    return hears_world(told[1], told[2], blind=len(told) == 4)


def _due(told):
    return with_due(told[1], told[2:])


def _hints(told):
    return with_hints(told[1], told[2])


def _perfect(told):
    return perfect(told[1])


def _cautious(told):
    return cautious(told[1])


def _complete(told):
    return complete(told[1])


def _trusting(told):
    return trusting(told[1])


def _leaders(told):
    return leaders(told[1], told[2])


def _agree(told):
    word, found = agree(told[0], told[1])
    return word if word == "program" else f"chain {len(found[0])}"


def _fewest(told):
    first = fewest_rounds(told[0], told[1])[0]
    return "none" if first is None else str(first)


def _makes(told):
    return "yes" if makes(told[0], told[1], told[2], told[3]) else "no"


def _make(told):
    return make(told[0], told[1], told[2])[0]


def _show(told):
    return printed(told[0])


MAKERS = {"stops": _stops, "losses": _losses, "hears": _hears, "due": _due, "hints": _hints, "perfect": _perfect,
          "cautious": _cautious, "complete": _complete, "trusting": _trusting, "leaders": _leaders}

ASKERS = {"agree": _agree, "fewest": _fewest, "makes": _makes, "make": _make, "show": _show}
