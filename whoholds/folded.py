"""Folded: programs in which one name stands for all names of a ring of moves."""

from whoholds.programs import names_of, renamed
from whoholds.tables import least


def rings(program):
    """The rings of two names and more, by their first names."""
    leading = _leading(program)
    told = []
    for name, ahead in leading.items():
        ring = [other for other in ahead if name in leading[other]]
        # Each of its names finds the whole ring, and only the first one tells it.
        if len(ring) > 1 and ring[0] == name:
            told.append(ring)
    return told


def folded(program):
    """The folded program, and a dict from each name to the one that stands for it."""
    heads = {name: name for name in names_of(program)}
    for ring in rings(program):
        for other in ring:
            heads[other] = ring[0]
    rows = []
    for row in program:
        told = renamed(row, lambda name: heads[name])
        if not _is_idle(told) and told not in rows:
            rows.append(told)
    return tuple(rows), heads


def _leading(program):
    """A dict from each name to the names that lead to it by moves, itself among them, all rising."""
    names = names_of(program)
    moves = [row for row in program if row[0] == "move"]
    # A box of its own goes from each name as far as the moves lead.
    table = least(tuple(moves + [("new", name, name) for name in names]))
    return {name: table[("name", name)] for name in names}


def _is_idle(row):
    """Whether a row moves a name to itself."""
    return row[0] == "move" and row[1] == row[2]
