"""Promise 14: rows that come and go."""

import unittest

from tests.oracles import HANDED_ON, ONE_WORD, drawing, holdings_of, listed_by, moves, some_programs
from whoholds.errors import HoldError, NoRow
from whoholds.kept import Kept
from whoholds.programs import names_of
from whoholds.tables import least

NEW_X = ("new", "x", "b")
NEW_Y = ("new", "y", "c")
PUT = ("put", "x", "s", "y")
TAKE = ("take", "z", "s", "x")
X, Y = (("name", "x"), "b"), (("name", "y"), "c")
SLOT, Z = (("slot", "b", "s"), "c"), (("name", "z"), "c")


def only_in(program, other, by=listed_by):
    """The holdings that the least table of one program lists and that of the other doesn't."""
    return sorted(set(holdings_of(by(program))) - set(holdings_of(by(other))))


def filled(program):
    """A Kept with these rows."""
    kept = Kept()
    for row in program:
        kept.put_in(row)
    return kept


class Beside:
    """A Kept, and the rows that it should have."""

    def __init__(self, case, by=listed_by):
        self.case, self.by, self.kept, self.rows = case, by, Kept(), []

    def put_in(self, row):
        self.go_on(self.kept.put_in(row), self.rows + [row], 1)

    def take_out(self, row):
        last = len(self.rows) - 1 - self.rows[::-1].index(row)
        self.go_on(self.kept.take_out(row), self.rows[:last] + self.rows[last + 1:], -1)

    def go_on(self, told, rows, way):
        before, self.rows = tuple(self.rows), rows
        first, second = (tuple(rows), before)[::way]
        self.case.assertIs(type(told), list)
        self.case.assertEqual(told, only_in(first, second, self.by), (before, rows))
        self.stands()

    def stands(self):
        self.case.assertIs(type(self.kept.rows()), tuple)
        self.case.assertEqual(self.kept.rows(), tuple(self.rows))
        table = self.by(tuple(self.rows))
        for name in "xyzuvwbcst":
            self.case.assertEqual(self.kept.lists(name), table.get(("name", name), []), (self.rows, name))

    def refuses(self, row):
        with self.case.assertRaises(HoldError) as caught:
            self.kept.take_out(row)
        self.case.assertIs(type(caught.exception), NoRow)
        self.stands()


class Kepts(unittest.TestCase):
    def test_none_at_first(self):
        self.assertEqual(Kept().rows(), ())
        self.assertIs(type(Kept().rows()), tuple)
        self.assertEqual(Kept().lists("x"), [])
        self.assertIs(type(Kept().lists("x")), list)

    def test_rows_put_in(self):
        kept = Kept()
        move = ("move", "w", "v")
        for row, told in ((NEW_X, [X]), (NEW_Y, [Y]), (PUT, [SLOT]), (TAKE, [Z]), (move, []), (NEW_X, [])):
            self.assertEqual(kept.put_in(row), told)
        self.assertEqual(kept.rows(), (NEW_X, NEW_Y, PUT, TAKE, move, NEW_X))
        for name, boxes in (("x", ["b"]), ("y", ["c"]), ("z", ["c"]), ("w", []), ("v", []), ("b", []), ("q", [])):
            self.assertEqual(kept.lists(name), boxes)

    def test_rows_put_in_the_other_way_about(self):
        kept = Kept()
        for row, told in ((TAKE, []), (PUT, []), (NEW_Y, [Y]), (NEW_X, [X, Z, SLOT])):
            self.assertEqual(kept.put_in(row), told)

    def test_rows_taken_out(self):
        kept = filled((NEW_X, NEW_Y, PUT, TAKE))
        self.assertEqual(kept.take_out(NEW_X), [X, Z, SLOT])
        self.assertEqual(kept.rows(), (NEW_Y, PUT, TAKE))
        self.assertEqual(kept.take_out(TAKE), [])
        self.assertEqual(kept.take_out(NEW_Y), [Y])
        self.assertEqual(kept.take_out(PUT), [])
        self.assertEqual(kept.rows(), ())
        for name in "xyz":
            self.assertEqual(kept.lists(name), [])

    def test_what_is_listed_by_another_way_too(self):
        kept = filled((NEW_X, ("move", "y", "x"), ("move", "z", "x"), ("move", "z", "y")))
        self.assertEqual(kept.take_out(("move", "z", "x")), [])
        self.assertEqual(kept.lists("z"), ["b"])
        self.assertEqual(kept.take_out(("move", "z", "y")), [(("name", "z"), "b")])

    def test_what_is_listed_only_by_itself(self):
        kept = filled((NEW_X, ("move", "y", "x"), ("move", "z", "y"), ("move", "y", "z")))
        self.assertEqual(kept.take_out(("move", "y", "x")), [(("name", "y"), "b"), (("name", "z"), "b")])
        self.assertEqual(kept.take_out(NEW_X), [X])

    def test_the_last_one_goes_first(self):
        kept = filled((NEW_X, NEW_Y, NEW_X, PUT, NEW_X, TAKE))
        self.assertEqual(kept.take_out(NEW_X), [])
        self.assertEqual(kept.rows(), (NEW_X, NEW_Y, NEW_X, PUT, TAKE))
        self.assertEqual(kept.take_out(NEW_X), [])
        self.assertEqual(kept.rows(), (NEW_X, NEW_Y, PUT, TAKE))
        self.assertEqual(kept.take_out(NEW_X), [X, Z, SLOT])
        self.assertEqual(kept.rows(), (NEW_Y, PUT, TAKE))
        self.assertRaises(NoRow, kept.take_out, NEW_X)

    def test_rows_that_stand_not(self):
        beside = Beside(self)
        beside.refuses(NEW_X)
        for row in (NEW_X, NEW_Y, PUT, TAKE):
            beside.put_in(row)
        for row in (
            ("new", "x", "c"), ("new", "y", "b"), ("new", "b", "x"), ("move", "x", "b"), ("move", "y", "x"),
            ("take", "x", "s", "y"), ("put", "y", "s", "x"), ("put", "x", "t", "y"), ("take", "z", "s", "y"),
        ):
            beside.refuses(row)
        beside.take_out(NEW_X)
        beside.refuses(NEW_X)
        beside.put_in(NEW_X)
        beside.take_out(NEW_X)

    def test_drawn_rows_coming_and_going(self):
        one_of = drawing(9)
        for program in some_programs(25, 12, "uvwxyz", "bc", "st") + [HANDED_ON, ONE_WORD]:
            beside = Beside(self)
            for _ in range(30):
                row = one_of(program)
                if one_of((True, True, False)):
                    beside.put_in(row)
                elif row in beside.rows:
                    beside.take_out(row)
                else:
                    beside.refuses(row)

    def test_put_in_and_taken_out_again_in_any_order(self):
        one_of = drawing(2)
        for program in some_programs(20, 8):
            beside = Beside(self)
            for row in program:
                beside.put_in(row)
            while beside.rows:
                beside.take_out(one_of(beside.rows))
            self.assertEqual(beside.kept.rows(), ())

    def test_sixty_rows(self):
        for turned in (False, True):
            beside = Beside(self, least)
            for row in moves(59, turned):
                beside.put_in(row)
            self.assertEqual(beside.kept.lists("n59"), ["b"])
            beside.take_out(("move", "n30", "n29"))
            self.assertEqual(beside.kept.lists("n59"), [])
            beside.put_in(("move", "n30", "n29"))
            self.assertEqual(beside.kept.lists("n59"), ["b"])
            for row in moves(59, False):
                beside.take_out(row)

    def test_what_is_told_is_rising(self):
        rows = (("put", "x", "s", "x"), ("move", "z", "x"), ("move", "a", "x"), ("new", "z", "a"), ("new", "x", "c"))
        kept = filled(rows)
        told = [(("name", name), "b") for name in "axz"] + [(("slot", "b", "s"), box) for box in "bc"]
        told += [(("slot", "c", "s"), "b")]
        self.assertEqual(kept.put_in(NEW_X), told)
        self.assertEqual(kept.take_out(NEW_X), told)

    def test_two_beside_one_another(self):
        one, other = Kept(), Kept()
        self.assertEqual(one.put_in(NEW_X), [X])
        self.assertEqual(other.rows(), ())
        self.assertEqual(other.lists("x"), [])
        self.assertEqual(other.put_in(("move", "y", "x")), [])
        self.assertEqual(other.put_in(NEW_X), [X, (("name", "y"), "b")])
        self.assertEqual(one.rows(), (NEW_X,))
        self.assertEqual(one.take_out(NEW_X), [X])
        self.assertEqual(other.rows(), (("move", "y", "x"), NEW_X))
        self.assertEqual(other.lists("y"), ["b"])
        self.assertRaises(NoRow, one.take_out, NEW_X)

    def test_it_is_told_as_by_the_least_table(self):
        for program in some_programs(60, 9):
            kept, table = filled(program), listed_by(program)
            for name in names_of(program):
                self.assertEqual(kept.lists(name), table[("name", name)])


class LeftAlone(unittest.TestCase):
    def test_what_was_told_may_be_changed(self):
        kept = filled((NEW_X, NEW_Y))
        told = kept.put_in(PUT)
        told.append("zz")
        boxes = kept.lists("x")
        boxes.append("zz")
        self.assertEqual(kept.lists("x"), ["b"])
        boxes.clear()
        self.assertEqual(kept.lists("x"), ["b"])
        kept.lists("q").append("zz")
        self.assertEqual(kept.lists("q"), [])
        self.assertEqual(kept.put_in(TAKE), [Z])
        kept.take_out(TAKE).clear()
        self.assertEqual(kept.take_out(NEW_X), [X, SLOT])

    def test_what_was_told_stays_as_it_was(self):
        kept = filled((NEW_X, ("move", "y", "x")))
        rows, boxes = kept.rows(), kept.lists("y")
        told = kept.put_in(("new", "x", "c"))
        kept.take_out(NEW_X)
        self.assertEqual(rows, (NEW_X, ("move", "y", "x")))
        self.assertEqual(boxes, ["b"])
        self.assertEqual(told, [(("name", "x"), "c"), (("name", "y"), "c")])
        self.assertEqual(kept.lists("y"), ["c"])
