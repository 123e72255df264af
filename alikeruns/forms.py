"""Lines of words, and the forms that they can have. [57] [58]

A form is a tuple of words. A word in angle brackets stands for all words of
a kind; every other word stands for itself.
"""

from alikeruns.bounds import MOST_DIGITS, MOST_LETTERS

DIGITS = "0123456789"
LETTERS = "abcdefghijklmnopqrstuvwxyz"


def _number(word):
    """A tuple of the number that a word is, an empty one if it is none; so do all readers of words."""
    if not 1 <= len(word) <= MOST_DIGITS or not _is_made_of(word, DIGITS):
        return ()
    if word[0] == "0" and len(word) > 1:
        return ()
    return (int(word),)


def _hint(word):
    if word == "x":
        return (None,)
    if word[:1] != "-":
        return _number(word)
    return tuple([-number for number in _number(word[1:]) if number != 0])


def _nodes(word):
    return _number(word) if word in ("1", "2", "3", "4") else ()


def _list(word):
    """A tuple of the numbers, as a tuple, between the commas of a word."""
    numbers = [_number(part) for part in word.split(",")]
    return (tuple([number[0] for number in numbers]),) if () not in numbers else ()


def _list_or_none(word):
    return ((),) if word == "-" else _list(word)


def _heard(word):
    return (None,) if word == "x" else _list_or_none(word)


def _box(word):
    return (None,) if word == "x" else _list(word)


def _yes_or_no(word):
    return (word == "yes",) if word in ("yes", "no") else ()


def _name(word):
    return (word,) if 1 <= len(word) <= MOST_LETTERS and _is_made_of(word, LETTERS) else ()


def _pair(word):
    return tuple([numbers for numbers in _list(word) if len(numbers) == 2])


def _is_made_of(word, signs):
    return all([sign in signs for sign in word])


def _blind(word):
    return (True,) if word == "blind" else ()


READERS = {"<number>": _number, "<hint>": _hint, "<nodes>": _nodes, "<list>": _list, "<list or ->": _list_or_none,
           "<heard>": _heard, "<box>": _box, "<yes or no>": _yes_or_no, "<pair>": _pair, "<blind>": _blind,
           "<new>": _name, "<world>": _name, "<demand>": _name, "<world or demand>": _name}


def read_line(line, form):
    """The values that the words of a line stand for, None if it does not have the form."""
    words = line.split(" ")
    if len(words) != len(form):
        return None
    found = []
    for word, told in zip(words, form):
        if told not in READERS:
            if word != told:
                return None
        else:
            reader = READERS[told]
            read = reader(word)
            if len(read) == 0:
                return None
            found.append(read[0])
    return found
