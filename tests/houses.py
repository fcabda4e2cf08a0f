"""Houses to be laid, and the laying done plainly."""

from tests.oracles import drawing

# A room that takes two names, one that takes none and has no row, and one that isn't come to.
FRONT = (
    ("front", ("t",), (
        ("new", "x", "b"), ("put", "x", "s", "t"), ("call", "y", "back", ("x", "t")), ("call", "t", "none", ()),
        ("call", "z", "back", ("y", "y")), ("take", "u", "t", "z"),
    ), "u"),
    ("back", ("p", "q"), (("put", "p", "t", "q"), ("new", "q", "c.1"), ("move", "r", "q")), "p"),
    ("none", (), (), "x"),
    ("far", (), (("new", "x", "d"), ("call", "y", "back", ("x", "x"))), "y"),
)
FRONT_TOGETHER = (
    ("new", "front.x", "b"), ("put", "front.x", "s", "front.t"),
    ("move", "back.p", "front.x"), ("move", "back.q", "front.t"), ("move", "front.y", "back.p"),
    ("move", "front.t", "none.x"),
    ("move", "back.p", "front.y"), ("move", "back.q", "front.y"), ("move", "front.z", "back.p"),
    ("take", "front.u", "t", "front.z"),
    ("put", "back.p", "t", "back.q"), ("new", "back.q", "c.1"), ("move", "back.r", "back.q"),
    ("new", "far.x", "d"),
    ("move", "back.p", "far.x"), ("move", "back.q", "far.x"), ("move", "far.y", "back.p"),
)
FRONT_APART = (
    ("new", "front.x", "b"), ("put", "front.x", "s", "front.t"),
    ("move", "front.a2.p", "front.x"), ("move", "front.a2.q", "front.t"),
    ("put", "front.a2.p", "t", "front.a2.q"), ("new", "front.a2.q", "c.1"), ("move", "front.a2.r", "front.a2.q"),
    ("move", "front.y", "front.a2.p"),
    ("move", "front.t", "front.a3.x"),
    ("move", "front.a4.p", "front.y"), ("move", "front.a4.q", "front.y"),
    ("put", "front.a4.p", "t", "front.a4.q"), ("new", "front.a4.q", "c.1"), ("move", "front.a4.r", "front.a4.q"),
    ("move", "front.z", "front.a4.p"),
    ("take", "front.u", "t", "front.z"),
)
# Each word is a kind of row, too.
KINDS = (
    ("call", ("new",), (
        ("call", "call", "new", ("new", "put", "take")), ("new", "new", "new"), ("take", "take", "put", "move"),
    ), "call"),
    ("new", ("call", "move", "new"), (("put", "call", "call", "new"), ("move", "move", "call")), "move"),
)
KINDS_TOGETHER = (
    ("move", "new.call", "call.new"), ("move", "new.move", "call.put"), ("move", "new.new", "call.take"),
    ("move", "call.call", "new.move"), ("new", "call.new", "new"), ("take", "call.take", "put", "call.move"),
    ("put", "new.call", "call", "new.new"), ("move", "new.move", "new.call"),
)
KINDS_APART = (
    ("move", "call.a0.call", "call.new"), ("move", "call.a0.move", "call.put"), ("move", "call.a0.new", "call.take"),
    ("put", "call.a0.call", "call", "call.a0.new"), ("move", "call.a0.move", "call.a0.call"),
    ("move", "call.call", "call.a0.move"), ("new", "call.new", "new"), ("take", "call.take", "put", "call.move"),
)
# What one call brings comes back from the other one, too, where the room is laid but once.
MIXED = (
    ("main", (), (
        ("new", "x", "b"), ("new", "y", "c"), ("call", "v", "same", ("x",)), ("call", "w", "same", ("y",)),
    ), "v"),
    ("same", ("t",), (("move", "u", "t"),), "u"),
)


def named(row, copy):
    """A row of a room, its names behind the copy's."""
    kind, *words = row
    names = (0,) if kind == "new" else (0, len(words) - 1)
    return (kind,) + tuple([copy + "." + word if at in names else word for at, word in enumerate(words)])


def laid_by(house):
    """The rows laid apart, and (room's name, copy's name) of each copy."""
    rooms = {room[0]: room for room in house}
    rows, copies = [], []

    def lay(room, copy):
        copies.append((room, copy))
        for at, row in enumerate(rooms[room][2]):
            if row[0] != "call":
                rows.append(named(row, copy))
                continue
            _, x, called, args = row
            inner = copy + ".a" + str(at)
            for taken, arg in zip(rooms[called][1], args, strict=True):
                rows.append(("move", inner + "." + taken, copy + "." + arg))
            lay(called, inner)
            rows.append(("move", copy + "." + x, inner + "." + rooms[called][3]))

    lay(house[0][0], house[0][0])
    return tuple(rows), copies


def together_by(house):
    """The rows laid together."""
    rows = []
    for name, _, own, _ in house:
        for row in own:
            if row[0] != "call":
                rows.append(named(row, name))
                continue
            takes, back = [(room[1], room[3]) for room in house if room[0] == row[2]][0]
            rows += [("move", row[2] + "." + takes[at], name + "." + arg) for at, arg in enumerate(row[3])]
            rows.append(("move", name + "." + row[1], row[2] + "." + back))
    return tuple(rows)


def names_in(room):
    """Every name that stands anywhere in a room."""
    _, takes, rows, back = room
    names = {back, *takes}
    for row in rows:
        names |= {row[1]} if row[0] == "new" else {row[1], *row[3]} if row[0] == "call" else {row[1], row[-1]}
    return sorted(names)


def some_houses(many, most=4, ahead=False, calls=2):
    """Houses of one to five rooms of none to so many rows; with ahead each room calls only later ones."""
    one_of = drawing(3)
    told = []
    for _ in range(many):
        names = ["hall", "call", "b", "new", "kitchen"][:one_of(range(1, 6))]
        takes = {name: tuple("tuv"[:one_of(range(4))]) for name in names}
        house = []
        for at, name in enumerate(names):
            rows = []
            callable_ones = names[at + 1:] if ahead else names
            for _ in range(one_of(range(most + 1))):
                kind = one_of(("new", "move", "put", "take", "new") + ("call",) * calls * bool(callable_ones))
                if kind == "new":
                    rows.append((kind, one_of("xyt"), one_of("bc")))
                elif kind == "move":
                    rows.append((kind, one_of("xyt"), one_of("xyz")))
                elif kind == "call":
                    called = one_of(callable_ones)
                    rows.append((kind, one_of("xyz"), called, tuple([one_of("xyz") for _ in takes[called]])))
                else:
                    rows.append((kind, one_of("xyt"), one_of("st"), one_of("xyz")))
            house.append((name, takes[name], tuple(rows), one_of("xyt")))
        told.append(tuple(house))
    return told


def shuffled(house):
    """The house with its rooms turned about, the first one last."""
    return tuple(reversed(house))


def goes_round(house):
    """Whether a room comes to itself by calls."""
    pairs = {(name, row[2]) for name, _, rows, _ in house for row in rows if row[0] == "call"}
    while True:
        more = {(a, d) for a, b in pairs for c, d in pairs if b == c} - pairs
        if not more:
            return any(a == b for a, b in pairs)
        pairs |= more


def counted(many, more):
    """A house that is laid apart as so many times 25 rows, moves of calls counted, and so many more."""
    rows = (("call", "x", "mid", ("x", "y")),) * many + (("move", "x", "y"),) * more
    mid = (("call", "t", "low", ("t", "t", "t")),) + (("move", "t", "u"),) * 6
    low = (("new", "t", "b"),) * 12
    return (("top", (), rows, "x"), ("mid", ("t", "u"), mid, "t"), ("low", ("t", "u", "v"), low, "t"))
