"""Things of many kinds, for what is asked of anything."""

PRINTABLE = "".join([chr(code) for code in range(32, 127)]) + "\n\r\t"
SMALL = "abcdefghijklmnopqrstuvwxyz"
FIGURES = "0123456789"


def nested(kind, inner, depth):
    """A thing with `depth` lists, tuples or dicts around `inner`."""
    thing = inner
    for _ in range(depth):
        if kind == "list":
            thing = [thing]
        elif kind == "tuple":
            thing = (thing,)
        else:
            thing = {"a": thing}
    return thing


def plain_things():
    """Whole numbers, truths, None and texts, none of them a word."""
    return [
        0, 1, -1, 3, 4, 10 ** 59, -(10 ** 60 - 1), True, False, None,
        "", " ", "\n", "\t", "~", "A", "9", ".", "a b", "a-b", "a_b", "a\n", "\na", " a", "a ", "aB",
        "a" * 41, "x" * 1000, PRINTABLE,
    ]


def things_of_things():
    """Lists, tuples and dicts, none of them a word, a row or a program."""
    told = [[], {}, ["x"], {"x": "y"}, {1: 2}, {("new", "x", "b"): True}, {"new": ("new", "x", "b")}]
    told += [["new", "x", "b"], [("new", "x", "b")], [["new", "x", "b"]], (["new", "x", "b"],)]
    told += [(("new", "x", "b"), []), (("new", "x", "b"), None), ((),), ([],), ({},), (None,), (True,), (0,), ("",)]
    for kind in ("list", "tuple", "dict"):
        for inner in (None, True, 7, "a", (), [], {}, ("new", "x", "b"), (("new", "x", "b"),)):
            for depth in (2, 3, 20):
                told.append(nested(kind, inner, depth))
    return told


def no_words():
    """Things of many kinds that are no words."""
    return plain_things() + things_of_things() + [(), ("new", "x", "b"), (("new", "x", "b"),)]
