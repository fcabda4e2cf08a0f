"""Likeness: names and boxes put together in classes, of which each holds one at most."""

from whoholds.programs import boxes_of, names_of


def classes(program):
    """The classes, and a dict from the number of each class that holds one to the number of that."""
    heads, holds = _settled(program)
    members = {}
    for node in sorted(heads):
        members.setdefault(heads[node], []).append(node)
    numbers = {head: number for number, head in enumerate(members)}
    return list(members.values()), {numbers[head]: numbers[holds[head]] for head in members if head in holds}


def are_alike(program, one, other):
    """Whether two nodes of the program are in one class."""
    heads, _ = _settled(program)
    return heads[one] == heads[other]


def boxes_alike(program, name):
    """The boxes that are in the class that the name's class holds, rising."""
    heads, holds = _settled(program)
    held = holds.get(heads[("name", name)])
    return [box for box in boxes_of(program) if heads[("box", box)] == held]


def _settled(program):
    """Dicts from each node to its class's head, and from heads to the heads of what their classes hold.

    A class's head is one of its nodes that stands for it.
    """
    nodes = [("name", name) for name in names_of(program)] + [("box", box) for box in boxes_of(program)]
    heads = {node: node for node in nodes}
    holds = {}
    changed = True
    while changed:
        changed = False
        for row in program:
            if _heed(row, heads, holds):
                changed = True
    return heads, holds


def _heed(row, heads, holds):
    """Do what a row asks of the classes as they stand; whether it changed anything."""
    kind, x = row[0], heads[("name", row[1])]
    if kind == "new":
        return _let_hold(x, heads[("box", row[2])], heads, holds)
    y = heads[("name", row[-1])]
    if kind == "move":
        return _share(x, y, heads, holds)
    if kind == "put":
        return x in holds and _share(holds[x], y, heads, holds)
    return y in holds and _share(x, holds[y], heads, holds)


def _share(one, other, heads, holds):
    """Where either class holds one, let the other hold it too; whether it changed anything."""
    if one in holds:
        return _let_hold(other, holds[one], heads, holds)
    return other in holds and _let_hold(one, holds[other], heads, holds)


def _let_hold(holder, held, heads, holds):
    """Let a class hold another, together with what it holds already; whether it changed anything."""
    if holder not in holds:
        holds[holder] = held
        return True
    if holds[holder] == held:
        return False
    _join(holds[holder], held, heads, holds)
    return True


def _join(kept, lost, heads, holds):
    """Put two classes together under the head of the first one."""
    _rename(heads, lost, kept)
    _rename(holds, lost, kept)
    # The rows by which the lost one held something let the kept one hold it, when they are heeded again.
    holds.pop(lost, None)


def _rename(table, lost, kept):
    """Let the dict tell the kept head wherever it told the lost one."""
    for key in list(table):
        if table[key] == lost:
            table[key] = kept
