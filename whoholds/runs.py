"""Runs: what names and slots hold after rows are done."""


def run(program, numbers):
    """What names and slots hold after the rows of these numbers are done in order."""
    names = {}
    slots = {}
    made = {}
    for number in numbers:
        _do(program[number], names, slots, made)
    return names, slots


def _do(row, names, slots, made):
    kind = row[0]
    if kind == "new":
        _, x, box = row
        count = made.get(box, 0)
        names[x] = (box, count)
        made[box] = count + 1
    elif kind == "move":
        _, x, y = row
        _give(names, x, names.get(y))
    elif kind == "put":
        _, x, slot, y = row
        if x in names:
            _give(slots, (names[x], slot), names.get(y))
    else:
        _, x, slot, y = row
        # Where y holds nothing None is looked up, of which no slot is ever kept.
        _give(names, x, slots.get((names.get(y), slot)))


def _give(holders, holder, thing):
    # Only what holds a thing stands in the dicts that are told.
    if thing is None:
        holders.pop(holder, None)
    else:
        holders[holder] = thing
