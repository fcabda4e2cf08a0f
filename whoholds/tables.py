"""Tables: which boxes each place lists, and the least table of a program."""

from whoholds.programs import boxes_of, is_word, names_of, slots_of

PLACE_PARTS = {"name": 2, "slot": 3}


def least(program):
    """The least closed table of a program, with a list for each of its places."""
    table = {place: {} for place in _places(program)}
    grows = True
    while grows:
        grows = False
        for row in program:
            for place, boxes in _asks(row, table):
                if _list_all(table[place], boxes):
                    grows = True
    return {place: sorted(listed) for place, listed in table.items()}


def is_closed(program, table):
    """Whether a dict is a table that is closed for the program."""
    if not _is_table(table):
        return False
    for row in program:
        for place, boxes in _asks(row, table):
            listed = table.get(place, [])
            if not all([box in listed for box in boxes]):
                return False
    return True


def _places(program):
    names = [("name", name) for name in names_of(program)]
    return names + [("slot", box, slot) for box in boxes_of(program) for slot in slots_of(program)]


def _asks(row, table):
    """What a row asks of a closed table: tuples (place, boxes), the place to list all these boxes."""
    kind, x, y = row[0], ("name", row[1]), ("name", row[-1])
    if kind == "new":
        return [(x, [row[2]])]
    if kind == "move":
        return [(x, table.get(y, []))]
    if kind == "put":
        return [(("slot", box, row[2]), table.get(y, [])) for box in table.get(x, [])]
    return [(x, table.get(("slot", box, row[2]), [])) for box in table.get(y, [])]


def _list_all(listed, boxes):
    """Let a dict of listed boxes have all these; whether one of them is new in it."""
    missing = [box for box in boxes if box not in listed]
    for box in missing:
        listed[box] = True
    return len(missing) > 0


def _is_table(thing):
    if not isinstance(thing, dict):
        return False
    return all([_is_place(place) and _is_list(boxes) for place, boxes in thing.items()])


def _is_place(thing):
    if not isinstance(thing, tuple) or len(thing) == 0 or len(thing) != PLACE_PARTS.get(thing[0], 0):
        return False
    return all([is_word(part) for part in thing[1:]])


def _is_list(thing):
    """Whether anything is a list of boxes, rising, each once."""
    if not isinstance(thing, list) or not all([is_word(box) for box in thing]):
        return False
    return thing == sorted(set(thing))
