"""Tables: which boxes each place lists, and the least table of a program."""

from whoholds.programs import boxes_of, is_word, names_of, slots_of

PLACE_PARTS = {"name": 2, "slot": 3}


def least(program):
    """The least closed table of a program, with a list for each of its places."""
    table = {place: {} for place in _places(program)}
    readers = _readers(program)
    due = list(program)
    while due:
        grown = {}
        for row in due:
            for place, boxes in _asks(row, table):
                if _list_all(table[place], boxes):
                    grown[(place[0], place[-1])] = True
        # A row asks for more only after what it reads has come to list more.
        due = list({row: True for part in grown for row in readers.get(part, [])})
    return {place: sorted(listed) for place, listed in table.items()}


def is_closed(program, table):
    """Whether a dict is a table that is closed for the program."""
    if not _is_table(table):
        return False
    for row in program:
        for place, boxes in _asks(row, table):
            listed = table.get(place, [])
            if not all([box in listed for box in boxes]):
                return False
    return True


def _places(program):
    names = [("name", name) for name in names_of(program)]
    return names + [("slot", box, slot) for box in boxes_of(program) for slot in slots_of(program)]


def _readers(program):
    """For each name and slot, ("name", x) or ("slot", s), the rows that read what is listed there."""
    readers = {}
    for row in program:
        for part in _reads(row):
            readers.setdefault(part, []).append(row)
    return readers


def _reads(row):
    """The names and the slot that a row reads, as in _readers."""
    kind, x, y = row[0], ("name", row[1]), ("name", row[-1])
    if kind == "new":
        return []
    if kind == "move":
        return [y]
    if kind == "put":
        return [x, y]
    return [y, ("slot", row[2])]


def _asks(row, table):
    """What a row asks of a closed table: tuples (place, boxes), the place to list all these boxes."""
    kind, x, y = row[0], ("name", row[1]), ("name", row[-1])
    if kind == "new":
        return [(x, [row[2]])]
    if kind == "move":
        return [(x, table.get(y, []))]
    if kind == "put":
        return [(("slot", box, row[2]), table.get(y, [])) for box in table.get(x, [])]
    return [(x, table.get(("slot", box, row[2]), [])) for box in table.get(y, [])]


def _list_all(listed, boxes):
    """Let a dict of listed boxes have all these; whether one of them is new in it."""
    missing = [box for box in boxes if box not in listed]
    for box in missing:
        listed[box] = True
    return len(missing) > 0


def _is_table(thing):
    if not isinstance(thing, dict):
        return False
    return all([_is_place(place) and _is_list(boxes) for place, boxes in thing.items()])


def _is_place(thing):
    if not isinstance(thing, tuple) or len(thing) == 0 or len(thing) != PLACE_PARTS.get(thing[0], 0):
        return False
    return all([is_word(part) for part in thing[1:]])


def _is_list(thing):
    """Whether anything is a list of boxes, rising, each once."""
    if not isinstance(thing, list) or not all([is_word(box) for box in thing]):
        return False
    return thing == sorted(set(thing))
