"""Asked: which rows of a program are enough for what one name lists."""

from whoholds.tables import least


def are_enough(program, name, numbers):
    """Whether by the rows of these numbers alone the name lists what it does by all."""
    return _listed(program, name, numbers) == _listed(program, name, list(range(len(program))))


def asked(program, name):
    """The boxes that a name lists, and the numbers of rows that are enough and of which none is to spare."""
    kept = list(range(len(program)))
    boxes = _listed(program, name, kept)
    for number in range(len(program)):
        fewer = [other for other in kept if other != number]
        # Fewer rows list no more: what can't be left out now can't be left out later either.
        if _listed(program, name, fewer) == boxes:
            kept = fewer
    return boxes, kept


def _listed(program, name, numbers):
    """What the name lists in the least table of the rows of these numbers."""
    table = least(tuple([program[number] for number in numbers]))
    # The name may stand in none of these rows, and then it has no list.
    return table.get(("name", name), [])
