"""Which values are integers, sequences and pairs. [16]"""


def is_integer(value):
    """Whether value is an integer; True and False are none."""
    return isinstance(value, int) and not isinstance(value, bool)


def is_number(value, low, high):
    """Whether value is an integer from low to high."""
    return is_integer(value) and low <= value <= high


def is_sequence(value):
    """Whether value is a list or a tuple."""
    return isinstance(value, (list, tuple))


def is_row(value, size):
    """Whether value is a sequence of size elements."""
    return is_sequence(value) and len(value) == size


def is_ascending(value, high):
    """Whether value is a strictly ascending sequence of integers from 0 to high."""
    if not is_sequence(value):
        return False
    low = 0
    for number in value:
        if not is_number(number, low, high):
            return False
        low = number + 1
    return True


def is_table_of_integers(value):
    """Whether value is a sequence of pairs of integers, the first ones all different."""
    if not is_sequence(value):
        return False
    seen = set()
    for pair in value:
        if not is_row(pair, 2) or not is_integer(pair[0]) or not is_integer(pair[1]):
            return False
        if pair[0] in seen:
            return False
        seen.add(pair[0])
    return True
