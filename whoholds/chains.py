"""Chains: how holdings follow by rows from others, and in which round they come."""

from whoholds.tables import least


def is_chain(program, holding, thing):
    """Whether anything is a chain that shows the holding."""
    if not isinstance(thing, list) or len(thing) == 0:
        return False
    for at in range(len(thing)):
        if not _is_link(program, thing, at):
            return False
    return thing[-1][0] == holding


def ranks(program):
    """The rank of each holding of the least table."""
    return {holding: way[0] for holding, way in _ways(program).items()}


def shown(program, holding):
    """("holds", a chain that shows it) or ("never", a closed table that doesn't list it)."""
    ways = _ways(program)
    if holding in ways:
        return ("holds", _chain(ways, holding))
    return ("never", least(program))


def _is_link(program, things, at):
    """Whether the thing at this number is a chain's tuple, where all ahead of it are."""
    link = things[at]
    if not isinstance(link, tuple) or len(link) != 3:
        return False
    holding, number, of = link
    if not _is_number(number, len(program)) or not isinstance(of, tuple):
        return False
    if not all([_is_number(ahead, at) for ahead in of]):
        return False
    told = _follows(program[number], [things[ahead][0] for ahead in of])
    # A link may have None for its holding, and None follows from nothing.
    return told is not None and told == holding


def _is_number(thing, end):
    """Whether anything is a whole number from 0 to before the end."""
    return isinstance(thing, int) and not isinstance(thing, bool) and 0 <= thing < end


def _follows(row, of):
    """The holding that follows by a row from these, in this order; None where none does."""
    kind, x, y = row[0], ("name", row[1]), ("name", row[-1])
    places = [place for place, _ in of]
    boxes = [box for _, box in of]
    if kind == "new" and places == []:
        return (x, row[2])
    if kind == "move" and places == [y]:
        return (x, boxes[0])
    if kind == "put" and places == [x, y]:
        return (("slot", boxes[0], row[2]), boxes[1])
    if kind == "take" and len(of) == 2 and places == [y, ("slot", boxes[0], row[2])]:
        return (x, boxes[1])
    return None


def _ways(program):
    """A dict from each holding of the least table to (rank, row's number, of), by rising rank."""
    ways = {}
    table = {}
    rank = 1
    coming = [(_follows(row, ()), number, ()) for number, row in enumerate(program) if row[0] == "new"]
    while coming:
        fresh = []
        for holding, number, of in coming:
            if holding not in ways:
                ways[holding] = (rank, number, of)
                table.setdefault(holding[0], []).append(holding[1])
                fresh.append(holding)
        # What follows from older ones alone has come in an earlier round.
        coming = [
            (_follows(row, of), number, of)
            for holding in fresh for number, row in enumerate(program) for of in _readings(row, holding, table)
        ]
        rank += 1
    return ways


def _readings(row, holding, table):
    """Each tuple of holdings with this one in it, the other one listed, from which one follows by the row."""
    place, box = holding
    kind, x, y = row[0], ("name", row[1]), ("name", row[-1])
    found = []
    if kind == "move" and place == y:
        found.append((holding,))
    if kind == "put" and place == x:
        found.extend([(holding, (y, other)) for other in table.get(y, [])])
    if kind == "put" and place == y:
        found.extend([((x, other), holding) for other in table.get(x, [])])
    if kind == "take" and place == y:
        slot = ("slot", box, row[2])
        found.extend([(holding, (slot, other)) for other in table.get(slot, [])])
    if kind == "take" and place[0] == "slot" and place[2] == row[2] and place[1] in table.get(y, []):
        found.append(((y, place[1]), holding))
    return found


def _chain(ways, holding):
    """The chain of this holding and of those that its way goes back to, in the order of the ways."""
    needed = {holding: True}
    # Backwards, for what a holding follows from stands ahead of it.
    for later in reversed(list(ways)):
        if later in needed:
            for ahead in ways[later][2]:
                needed[ahead] = True
    chain = []
    numbers = {}
    for held, (_, number, of) in ways.items():
        if held in needed:
            numbers[held] = len(chain)
            chain.append((held, number, tuple([numbers[ahead] for ahead in of])))
    return chain
