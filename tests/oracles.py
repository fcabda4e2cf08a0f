"""The promises' words done plainly and slowly, and programs to compare by."""

ONE_WORD = (("new", "a", "a"), ("put", "a", "a", "a"), ("take", "a", "a", "a"), ("move", "a", "a"))
HANDED_ON = (
    ("new", "x", "b"), ("new", "y", "c"), ("put", "x", "s", "y"), ("move", "z", "x"), ("take", "w", "s", "z"),
    ("put", "w", "t", "x"), ("take", "v", "t", "y"),
)


def drawing(state):
    """A function that draws one of some things, the same ones each time."""
    def one_of(things):
        nonlocal state
        state = (state * 1103515245 + 12345) % 2 ** 31
        return things[(state >> 16) % len(things)]

    return one_of


def some_programs(many, rows, words="xyz", boxes="bc", slots="st"):
    """Programs of so many rows of these words, the same ones each time."""
    one_of = drawing(7)
    told = []
    for _ in range(many):
        program = []
        for _ in range(rows):
            kind = one_of(("new", "move", "put", "take", "new", "put"))
            if kind == "new":
                program.append((kind, one_of(words), one_of(boxes)))
            elif kind == "move":
                program.append((kind, one_of(words), one_of(words)))
            else:
                program.append((kind, one_of(words), one_of(slots), one_of(words)))
        told.append(tuple(program))
    return told


def every_program(most, words="xy", boxes="bc", slots="s"):
    """Every program of up to so many rows of these words."""
    rows = [("new", x, b) for x in words for b in boxes] + [("move", x, y) for x in words for y in words]
    rows += [(kind, x, s, y) for kind in ("put", "take") for x in words for s in slots for y in words]
    told = [()]
    layer = [()]
    for _ in range(most):
        layer = [program + (row,) for program in layer for row in rows]
        told += layer
    return told


def moves(many, turned):
    """A box that goes through so many moves, the rows in order or turned about."""
    rows = [("new", "n0", "b")] + [("move", f"n{k + 1}", f"n{k}") for k in range(many)]
    return tuple(reversed(rows)) if turned else tuple(rows)


def ladder(many, turned):
    """A box that is put into a slot and taken out of it so many times over, each slot of another box."""
    rows = [("new", "n0", "b")]
    for k in range(many):
        rows += [("new", f"h{k}", f"c{k}"), ("put", f"h{k}", "s", f"n{k}"), ("take", f"n{k + 1}", "s", f"h{k}")]
    return tuple(reversed(rows)) if turned else tuple(rows)


def walk(many, around, turned):
    """Boxes each in a slot of the one ahead, that names in a ring take one out of the other."""
    rows = []
    for k in range(many):
        rows += [("new", f"h{k}", f"b{k:02}"), ("put", f"h{k}", "s", f"h{k + 1}")]
    rows += [("new", f"h{many}", f"b{many:02}"), ("move", "r0", "h0")]
    rows += [("take", f"r{(k + 1) % around}", "s", f"r{k}") for k in range(around)]
    return tuple(reversed(rows)) if turned else tuple(rows)


def following(program, holdings):
    """Every (row's number, holdings that it follows from, holding) that follows from some of these."""
    told = []
    for number, row in enumerate(program):
        x, y = ("name", row[1]), ("name", row[-1])
        if row[0] == "new":
            told.append((number, (), (x, row[2])))
        for first in [holding for holding in holdings if row[0] != "new" and holding[0] in (x, y)]:
            if row[0] == "move" and first[0] == y:
                told.append((number, (first,), (x, first[1])))
            for second in holdings:
                if row[0] == "put" and first[0] == x and second[0] == y:
                    told.append((number, (first, second), (("slot", first[1], row[2]), second[1])))
                if row[0] == "take" and first[0] == y and second[0] == ("slot", first[1], row[2]):
                    told.append((number, (first, second), (x, second[1])))
    return told


def by_rounds(program):
    """A dict from each holding that follows to the round in which it first comes."""
    told = {}
    while True:
        come = {holding for _, _, holding in following(program, list(told)) if holding not in told}
        if not come:
            return told
        rank = 1 + max(told.values(), default=0)
        told.update({holding: rank for holding in come})


def listed_by(program):
    """The least table, by rounds."""
    places = [("name", part) for row in program for part in (row[1:2] if row[0] == "new" else (row[1], row[-1]))]
    boxes = [row[2] for row in program if row[0] == "new"]
    places += [("slot", box, row[2]) for box in boxes for row in program if row[0] in ("put", "take")]
    held = by_rounds(program)
    return {place: sorted(box for where, box in held if where == place) for place in places}


def holdings_of(table):
    """The holdings that a table lists."""
    return [(place, box) for place in table for box in table[place]]


def is_closed_by(program, table):
    """Whether a table is closed, by what follows from its holdings."""
    held = holdings_of(table)
    return all(holding in held for _, _, holding in following(program, held))


def alike_by(program):
    """The pairs of nodes that are alike, and the pairs (holder, held), by each single thing that the rows ask."""
    nodes = {("box", row[2]) for row in program if row[0] == "new"}
    nodes |= {("name", part) for row in program for part in (row[1:2] if row[0] == "new" else (row[1], row[-1]))}
    alike, holds, many = {(node, node) for node in nodes}, set(), -1
    while many != len(alike) + len(holds):
        many = len(alike) + len(holds)
        alike |= {(b, a) for a, b in alike} | {(a, d) for a, b in alike for c, d in alike if b == c}
        alike |= {(a, b) for x, a in holds for y, b in holds if x == y}
        holds |= {(b, c) for a, b in alike for x, c in holds if x == a}
        holds |= {(x, b) for a, b in alike for x, c in holds if c == a}
        for row in program:
            x, y = ("name", row[1]), ("name", row[-1])
            if row[0] == "new":
                holds.add((x, ("box", row[2])))
            elif row[0] == "move":
                _share(x, y, holds)
            else:
                holder, other = (x, y) if row[0] == "put" else (y, x)
                for held in [c for a, c in holds if a == holder]:
                    _share(held, other, holds)
    return alike, holds


def _share(one, other, holds):
    for a, b in ((one, other), (other, one)):
        for held in [c for x, c in holds if x == a]:
            holds.add((b, held))
