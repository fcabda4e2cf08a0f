"""Words, rows and programs, and the words that a program uses."""

LONGEST_WORD = 40
MOST_ROWS = 60
LETTERS = "abcdefghijklmnopqrstuvwxyz"
SIGNS = "abcdefghijklmnopqrstuvwxyz0123456789."
PARTS = {"new": 3, "move": 3, "put": 4, "take": 4}


def is_word(thing):
    """Whether anything is a word."""
    if not isinstance(thing, str) or not 1 <= len(thing) <= LONGEST_WORD:
        return False
    return thing[0] in LETTERS and all([sign in SIGNS for sign in thing])


def is_row(thing):
    """Whether anything is a row."""
    if not isinstance(thing, tuple) or len(thing) == 0:
        return False
    # The kind is looked up only when it is a text, for a list or a dict cannot be.
    if not isinstance(thing[0], str) or len(thing) != PARTS.get(thing[0], 0):
        return False
    return all([is_word(part) for part in thing[1:]])


def is_program(thing):
    """Whether anything is a program."""
    if not isinstance(thing, tuple) or len(thing) > MOST_ROWS:
        return False
    return all([is_row(part) for part in thing])


def names_of(program):
    """The names of a program, rising, each once."""
    names = []
    for row in program:
        names.append(row[1])
        if row[0] != "new":
            names.append(row[-1])
    return sorted(set(names))


def boxes_of(program):
    """The boxes of a program, rising, each once."""
    return sorted({row[2] for row in program if row[0] == "new"})


def slots_of(program):
    """The slots of a program, rising, each once."""
    return sorted({row[2] for row in program if row[0] in ("put", "take")})


def renamed(row, told):
    """The row with told(name) for each name in it."""
    if row[0] == "new":
        return ("new", told(row[1]), row[2])
    return row[:1] + (told(row[1]),) + row[2:-1] + (told(row[-1]),)
