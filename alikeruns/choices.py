"""All ways to choose."""


def subsets(items):
    """Every choice of some of the items, as tuples in the order of the items."""
    found = [()]
    for item in items:
        found = found + [chosen + (item,) for chosen in found]
    return found


def one_of_each(rows):
    """Every tuple of one item of each row; ascending if the rows are."""
    found = [()]
    for row in rows:
        found = [chosen + (item,) for chosen in found for item in row]
    return found
