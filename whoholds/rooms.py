"""Rooms: houses of rooms that call one another, laid as programs."""

from whoholds.errors import Round, TooMany
from whoholds.programs import renamed
from whoholds.tables import least

MOST_LAID = 200


def together(house):
    """The program of a house of which each room is laid once, for all that call it."""
    rooms = _by_name(house)
    program = []
    for name, _, rows, _ in house:
        for row in rows:
            if row[0] == "call":
                ahead, behind = _moves(row, name, rooms[row[2]], row[2])
                program.extend(ahead)
                program.append(behind)
            else:
                program.append(_inside(row, name))
    return tuple(program)


def apart(house):
    """The program of a house of which a room is laid anew for each call, from the first room on."""
    program, _ = _laid(house)
    return tuple(program)


def listed(house, room, name):
    """What a name of a room lists together, and what it lists apart, in all copies of the room."""
    program, copies = _laid(house)
    one, each = least(together(house)), least(program)
    boxes = sorted({box for copy in copies[room] for box in each.get(("name", f"{copy}.{name}"), [])})
    return one.get(("name", f"{room}.{name}"), []), boxes


def _by_name(house):
    return {room[0]: room for room in house}


def _inside(row, copy):
    """A row of a room as it stands in a copy of it."""
    return renamed(row, lambda name: f"{copy}.{name}")


def _moves(call, caller, room, copy):
    """The moves of a call from the caller's copy to the called room's: those ahead of its rows, and the one behind."""
    _, x, _, args = call
    _, takes, _, back = room
    ahead = [("move", f"{copy}.{taken}", f"{caller}.{arg}") for taken, arg in zip(takes, args)]
    return ahead, ("move", f"{caller}.{x}", f"{copy}.{back}")


def _laid(house):
    """The rows of a house laid apart, and a dict from each room's name to the names of its copies."""
    counts = _counts(house)
    first = house[0][0]
    if counts[first] > MOST_LAID:
        raise TooMany(MOST_LAID)
    program = []
    copies = {name: [] for name in counts}
    _add_copy(_by_name(house), first, first, program, copies)
    return program, copies


def _add_copy(rooms, name, copy, program, copies):
    """Lay a copy of a room, with those of the rooms that it calls, behind the program's rows."""
    copies[name].append(copy)
    for number, row in enumerate(rooms[name][2]):
        if row[0] == "call":
            inner = f"{copy}.a{number}"
            ahead, behind = _moves(row, copy, rooms[row[2]], inner)
            program.extend(ahead)
            _add_copy(rooms, row[2], inner, program, copies)
            program.append(behind)
        else:
            program.append(_inside(row, copy))


def _counts(house):
    """How many rows a copy of each room is laid as, with all that it calls.

    They are counted ahead of being laid, for far more than may be laid can come.
    """
    counts = {}
    while len(counts) < len(house):
        # What calls only rooms that are counted can be counted; rooms that call round never are.
        ready = [room for room in house if room[0] not in counts and _calls_only(room, counts)]
        if not ready:
            raise Round("rooms call one another round")
        for name, _, rows, _ in ready:
            counts[name] = sum([_count(row, counts) for row in rows])
    return counts


def _calls_only(room, counts):
    return all([row[2] in counts for row in room[2] if row[0] == "call"])


def _count(row, counts):
    """How many rows a row of a room is laid as."""
    if row[0] == "call":
        return len(row[3]) + counts[row[2]] + 1
    return 1
