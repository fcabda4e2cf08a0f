"""Promises 12 and 13: houses laid together and apart."""

import copy
import unittest

from tests.houses import (
    FRONT, FRONT_APART, FRONT_TOGETHER, KINDS, KINDS_APART, KINDS_TOGETHER, MIXED, counted, goes_round, laid_by,
    names_in, shuffled, some_houses, together_by,
)
from tests.oracles import listed_by
from whoholds.errors import HoldError, Round, TooMany
from whoholds.programs import is_program, is_row
from whoholds.rooms import apart, listed, together
from whoholds.tables import least

# Five rooms, of which each calls the next one twelve times.
DEEP = tuple([
    (name, ("t", "u"), (("call", "x", later, ("t", "x")),) * 12, "x") for name, later in zip("abcd", "bcde")
]) + (("e", ("t", "u"), (("new", "t", "b"),) * 12, "t"),)
# The same, of rooms that take nothing, the last one without rows.
BARE = tuple([(name, (), (("call", "x", later, ()),) * 12, "x") for name, later in zip("abcd", "bcde")])
BARE = BARE + (("e", (), (), "x"),)


def room(name, *called):
    """A room that calls these."""
    return (name, (), tuple([("call", "x", one, ()) for one in called]), "x")


class Together(unittest.TestCase):
    def check(self, house, program):
        told = together(house)
        self.assertIs(type(told), tuple)
        self.assertEqual(told, program, house)

    def test_no_rows(self):
        self.check((("front", (), (), "x"),), ())
        self.check((("front", ("x", "t"), (), "x"), ("back", (), (), "y")), ())

    def test_each_kind_of_row(self):
        rows = (("new", "x", "x"), ("move", "x", "y"), ("put", "x", "x", "y"), ("take", "y", "y", "x"))
        self.check((("b", (), rows, "x"),), (
            ("new", "b.x", "x"), ("move", "b.x", "b.y"), ("put", "b.x", "x", "b.y"), ("take", "b.y", "y", "b.x"),
        ))
        self.check((("b", (), (("put", "x", "s", "x"), ("move", "x", "x")), "x"),), (
            ("put", "b.x", "s", "b.x"), ("move", "b.x", "b.x"),
        ))

    def test_rows_in_order_room_by_room(self):
        self.check((("b", (), (("new", "x", "c"), ("new", "y", "b")), "x"), ("a", (), (("new", "x", "d"),), "x")), (
            ("new", "b.x", "c"), ("new", "b.y", "b"), ("new", "a.x", "d"),
        ))

    def test_calls(self):
        self.check(FRONT, FRONT_TOGETHER)
        self.check(KINDS, KINDS_TOGETHER)

    def test_calls_of_none_to_three_taken_names(self):
        for many in range(4):
            takes, args = ("u", "t", "v")[:many], ("y", "y", "x")[:many]
            program = tuple([("move", "back." + one, "front." + other) for one, other in zip(takes, args)])
            self.check(
                (("front", (), (("call", "y", "back", args),), "x"), ("back", takes, (), "t")),
                program + (("move", "front.y", "back.t"),),
            )

    def test_calls_of_later_ones_of_earlier_ones_and_of_itself(self):
        one = (("a", ("t",), (("call", "x", "b", ("y",)), ("call", "y", "a", ("x",))), "u"),)
        other = (("b", ("v",), (("call", "x", "a", ("v",)), ("new", "x", "b")), "w"),)
        in_a = (("move", "b.v", "a.y"), ("move", "a.x", "b.w"), ("move", "a.t", "a.x"), ("move", "a.y", "a.u"))
        in_b = (("move", "a.t", "b.v"), ("move", "b.x", "a.u"), ("new", "b.x", "b"))
        self.check(one + other, in_a + in_b)
        self.check(other + one, in_b + in_a)

    def test_deep_houses(self):
        self.assertEqual(len(together(DEEP)), 4 * 12 * 3 + 12)
        self.check(DEEP, together_by(DEEP))
        self.check(BARE, together_by(BARE))

    def test_drawn_houses(self):
        for house in some_houses(300) + some_houses(100, 12):
            self.check(house, together_by(house))

    def test_it_is_a_program_but_for_the_number_of_rows(self):
        for house in [FRONT, KINDS, MIXED, DEEP] + some_houses(50):
            for row in together(house):
                self.assertIs(is_row(row), True, row)
            self.assertIs(is_program(together(house)), len(together(house)) <= 60)


class Apart(unittest.TestCase):
    def check(self, house, program):
        told = apart(house)
        self.assertIs(type(told), tuple)
        self.assertEqual(told, program, house)

    def test_no_rows(self):
        self.check((("front", (), (), "x"),), ())
        self.check((("front", ("x",), (), "x"), ("back", (), (("new", "x", "b"),), "x")), ())

    def test_each_kind_of_row(self):
        rows = (("new", "x", "x"), ("move", "x", "y"), ("put", "x", "x", "y"), ("take", "y", "y", "x"))
        self.check((("b", (), rows, "x"),), (
            ("new", "b.x", "x"), ("move", "b.x", "b.y"), ("put", "b.x", "x", "b.y"), ("take", "b.y", "y", "b.x"),
        ))

    def test_calls(self):
        self.check(FRONT, FRONT_APART)
        self.check(KINDS, KINDS_APART)
        self.check(MIXED, (
            ("new", "main.x", "b"), ("new", "main.y", "c"),
            ("move", "main.a2.t", "main.x"), ("move", "main.a2.u", "main.a2.t"), ("move", "main.v", "main.a2.u"),
            ("move", "main.a3.t", "main.y"), ("move", "main.a3.u", "main.a3.t"), ("move", "main.w", "main.a3.u"),
        ))

    def test_calls_within_calls(self):
        house = (
            ("low", ("t",), (("new", "t", "b"),), "u"),
            ("top", (), (("call", "x", "mid", ("y",)), ("new", "x", "c"), ("call", "y", "low", ("x",))), "x"),
            ("mid", ("t",), (("move", "a", "t"), ("call", "a", "low", ("t",)), ("call", "t", "low", ("a",))), "a"),
        )
        self.check(house, (("new", "low.t", "b"),))
        self.check(house[1:] + house[:1], (
            ("move", "top.a0.t", "top.y"), ("move", "top.a0.a", "top.a0.t"),
            ("move", "top.a0.a1.t", "top.a0.t"), ("new", "top.a0.a1.t", "b"), ("move", "top.a0.a", "top.a0.a1.u"),
            ("move", "top.a0.a2.t", "top.a0.a"), ("new", "top.a0.a2.t", "b"), ("move", "top.a0.t", "top.a0.a2.u"),
            ("move", "top.x", "top.a0.a"), ("new", "top.x", "c"),
            ("move", "top.a2.t", "top.x"), ("new", "top.a2.t", "b"), ("move", "top.y", "top.a2.u"),
        ))

    def test_rows_of_two_figures(self):
        rows = (("new", "x", "b"),) * 10 + (("call", "x", "low", ()), ("call", "y", "low", ()))
        self.check((("top", (), rows, "x"), ("low", (), (("new", "z", "c"),), "z")), (("new", "top.x", "b"),) * 10 + (
            ("new", "top.a10.z", "c"), ("move", "top.x", "top.a10.z"),
            ("new", "top.a11.z", "c"), ("move", "top.y", "top.a11.z"),
        ))

    def test_calls_of_none_to_three_taken_names(self):
        for many in range(4):
            takes, args = ("u", "t", "v")[:many], ("y", "y", "x")[:many]
            program = tuple([("move", "front.a0." + one, "front." + other) for one, other in zip(takes, args)])
            self.check(
                (("front", (), (("call", "y", "back", args),), "x"), ("back", takes, (), "t")),
                program + (("move", "front.y", "front.a0.t"),),
            )

    def test_drawn_houses(self):
        for house in some_houses(200, ahead=True) + some_houses(60, 12, ahead=True, calls=1):
            for turned in (house, shuffled(house)):
                program, _ = laid_by(turned)
                if len(program) <= 200:
                    self.check(turned, program)
                else:
                    self.assertRaises(TooMany, apart, turned)

    def test_its_words_are_words(self):
        name = "x" * 8
        house = tuple([
            (one * 8, (name,), (("new", name, "b"),) * 11 + (("call", name, other * 8, (name,)),), name)
            for one, other in zip("abcd", "bcde")
        ]) + (("e" * 8, (name,), (("new", name, "b"),), name),)
        program = apart(house)
        self.assertEqual(program[-5], ("new", "aaaaaaaa.a11.a11.a11.a11.xxxxxxxx", "b"))
        for row in program:
            self.assertIs(is_row(row), True, row)


class Rounds(unittest.TestCase):
    def check(self, house):
        for turned in (house, shuffled(house)):
            for ask in (lambda: apart(turned), lambda: listed(turned, turned[0][0], "x")):
                with self.assertRaises(HoldError) as caught:
                    ask()
                self.assertIs(type(caught.exception), Round, turned)
            self.assertEqual(together(turned), together_by(turned))

    def test_a_room_that_calls_itself(self):
        self.check((room("a", "a"),))
        self.check((room("a", "b"), room("b", "b")))
        self.check((room("a", "b", "b"), room("b"), room("c", "b", "c")))

    def test_rooms_that_call_one_another(self):
        self.check((room("a", "b"), room("b", "a")))
        self.check((room("a", "b"), room("b", "c"), room("c", "d"), room("d", "e"), room("e", "a")))
        self.check((room("a", "b"), room("b", "c"), room("c", "d"), room("d", "b")))

    def test_that_the_first_one_does_not_come_to(self):
        self.check((room("a"), room("b", "c"), room("c", "b")))
        self.check((room("a", "b"), room("b"), room("c", "b", "d"), room("d", "a", "e"), room("e", "c")))

    def test_ahead_of_too_many(self):
        self.check(DEEP[:4] + (("e", ("t", "u"), (("call", "x", "e", ("t", "u")),), "t"),))
        self.check(DEEP[:4] + (("e", ("t", "u"), (("call", "x", "a", ("t", "u")),), "t"),))
        self.check(counted(9, 0) + (room("a", "a"),))
        self.check(counted(9, 0) + (room("a", "b"), room("b", "a")))

    def test_what_is_no_round(self):
        for house in (
            (room("a", "b", "b"), room("b")),
            (room("a", "b", "c"), room("b", "d"), room("c", "d"), room("d")),
            (room("a"), room("b", "a"), room("c", "b", "a")),
            (room("a", "b", "c", "d", "e"), room("b", "c", "d", "e"), room("c", "d", "e"), room("d", "e"), room("e")),
        ):
            for turned in (house, shuffled(house)):
                self.assertEqual(apart(turned), laid_by(turned)[0])

    def test_drawn_houses(self):
        seen = set()
        for house in some_houses(300) + some_houses(100, calls=1):
            if goes_round(house):
                self.check(house)
            elif len(laid_by(house)[0]) <= 200:
                self.assertEqual(apart(house), laid_by(house)[0])
            seen.add(goes_round(house))
        self.assertEqual(seen, {False, True})


class Many(unittest.TestCase):
    def check(self, house):
        for ask in [lambda: apart(house)] + [lambda one=one: listed(house, one[0], "x") for one in house]:
            with self.assertRaises(HoldError) as caught:
                ask()
            self.assertIs(type(caught.exception), TooMany)
            self.assertEqual(caught.exception.most, 200)
            self.assertIs(type(caught.exception.most), int)

    def test_just_two_hundred_and_one_more(self):
        for house in (counted(8, 0), counted(7, 0), counted(7, 5)):
            self.assertEqual(apart(house), laid_by(house)[0])
        self.assertEqual(len(apart(counted(8, 0))), 200)
        self.assertEqual(listed(counted(8, 0), "top", "x"), (["b"], ["b"]))
        self.check(counted(8, 1))
        self.check(counted(9, 0))
        for many in (5, 6, 7):
            self.assertEqual(len(apart(counted(many, 200 - many * 25))), 200)
            self.check(counted(many, 201 - many * 25))

    def test_moves_of_calls_are_counted(self):
        for many, takes in ((12, 3), (12, 0), (8, 1), (7, 2)):
            for rest in range(12):
                mid = (("call", "y", "low", ()),) * rest + (("new", "y", "b"),)
                house = (
                    ("top", (), (("call", "x", "mid", ("x", "y", "z")[:takes]),) * many, "x"),
                    ("mid", ("t", "u", "v")[:takes], mid, "t"),
                    ("low", (), (("move", "x", "y"),) * 3, "x"),
                )
                if many * (takes + 1 + 4 * rest + 1) <= 200:
                    self.assertEqual(len(apart(house)), many * (takes + 1 + 4 * rest + 1))
                else:
                    self.check(house)

    def test_the_moves_of_calls_alone(self):
        self.check(BARE)
        self.check(BARE[1:])
        self.assertEqual(len(apart(BARE[2:])), 12 * 13)
        self.assertEqual(len(apart(BARE[3:])), 12)

    def test_a_room_alone(self):
        for many in (200, 201):
            house = (("a", (), (("new", "x", "b"),) * many, "x"),)
            if many == 200:
                self.assertEqual(apart(house), (("new", "a.x", "b"),) * 200)
            else:
                self.check(house)

    def test_deep_houses(self):
        self.check(DEEP)
        self.check(DEEP[1:])
        wide = tuple([
            (one, ("t",), (("call", "x", other, ("x",)),) * 40, "x") for one, other in zip("abcdefg", "bcdefgh")
        ])
        self.check(wide + (("h", ("t",), (), "x"),))

    def test_only_what_is_laid_counts(self):
        self.assertEqual(apart((("first", (), (("new", "x", "b"),), "x"),) + DEEP[:4] + DEEP[4:]), (
            ("new", "first.x", "b"),
        ))
        self.assertEqual(apart(DEEP[4:] + DEEP[:4]), (("new", "e.t", "b"),) * 12)
        self.assertEqual(listed(DEEP[4:] + DEEP[:4], "a", "x"), (["b"], []))
        self.assertEqual(listed(DEEP[4:] + DEEP[:4], "e", "t"), (["b"], ["b"]))


class Listed(unittest.TestCase):
    def check(self, house, called, name, told):
        self.assertEqual(listed(house, called, name), told, (house, called, name))

    def test_ordinary_names(self):
        self.check(MIXED, "main", "x", (["b"], ["b"]))
        self.check(MIXED, "main", "v", (["b", "c"], ["b"]))
        self.check(MIXED, "main", "w", (["b", "c"], ["c"]))
        self.check(MIXED, "same", "t", (["b", "c"], ["b", "c"]))
        self.check(MIXED, "same", "u", (["b", "c"], ["b", "c"]))

    def test_rooms_that_are_not_laid(self):
        self.check(FRONT, "far", "x", (["d"], []))
        self.check(FRONT, "far", "y", (["b", "d"], []))
        self.check(FRONT, "back", "p", (["b", "d"], ["b"]))
        self.check(FRONT, "back", "q", (["b", "c.1", "d"], ["b", "c.1"]))
        self.check(FRONT, "front", "u", (["b", "c.1", "d"], ["b", "c.1"]))
        self.check(MIXED[::-1], "main", "x", (["b"], []))
        self.check(MIXED[::-1], "same", "u", (["b", "c"], []))

    def test_names_that_stand_in_no_row_of_the_room(self):
        house = (
            ("top", ("t",), (("new", "x", "b"), ("call", "y", "low", ("x", "x"))), "u"),
            ("low", ("t", "u"), (("move", "t", "t"),), "v"),
            ("far", ("t",), (), "t"),
        )
        for called, name, told in (
            ("top", "t", ([], [])), ("top", "u", ([], [])), ("top", "y", ([], [])), ("low", "u", (["b"], ["b"])),
            ("low", "v", ([], [])), ("far", "t", ([], [])),
        ):
            self.check(house, called, name, told)
        self.check((("low", ("t",), (), "t"), ("top", (), (("new", "x", "b"), ("call", "y", "low", ("x",))), "y")),
                   "low", "t", (["b"], []))

    def test_a_name_of_another_room_is_another_one(self):
        house = (
            ("a", (), (("new", "x", "b"), ("call", "y", "b", ())), "x"), ("b", (), (("new", "x", "c"),), "z"),
            ("ab", (), (("new", "x", "d"),), "x"),
        )
        for called, told in (("a", (["b"], ["b"])), ("b", (["c"], ["c"])), ("ab", (["d"], []))):
            self.check(house, called, "x", told)

    def test_all_copies_together_rising(self):
        rows = tuple([row for k in "cab" for row in (("new", k, k), ("call", "x", "mid", (k,)))])
        house = (("top", (), rows, "x"), ("mid", ("t",), (("call", "x", "low", ("t",)),), "x"),
                 ("low", ("t",), (("move", "x", "t"),), "x"))
        for called in ("mid", "low"):
            for name in ("t", "x"):
                self.check(house, called, name, (["a", "b", "c"], ["a", "b", "c"]))

    def test_each_room_and_name(self):
        for house in [FRONT, KINDS, MIXED, counted(3, 2)] + some_houses(80, ahead=True):
            for turned in (house, shuffled(house)):
                program, copies = laid_by(turned)
                if len(program) > 200:
                    continue
                one, other = least(together_by(turned)), least(program)
                for called in turned:
                    for name in names_in(called):
                        apart_boxes = [
                            box for known, copied in copies if known == called[0]
                            for box in other.get(("name", copied + "." + name), [])
                        ]
                        told = (one.get(("name", called[0] + "." + name), []), sorted(set(apart_boxes)))
                        self.check(turned, called[0], name, told)
                        self.assertTrue(set(told[1]) <= set(told[0]), (turned, called[0], name))

    def test_by_rounds(self):
        for called, name in (("front", "x"), ("front", "u"), ("back", "q"), ("back", "r"), ("none", "x")):
            one, other = listed_by(FRONT_TOGETHER), listed_by(FRONT_APART)
            copies = [copied for known, copied in laid_by(FRONT)[1] if known == called]
            boxes = {box for copied in copies for box in other.get(("name", copied + "." + name), [])}
            self.check(FRONT, called, name, (one.get(("name", called + "." + name), []), sorted(boxes)))

    def test_how_it_is_told(self):
        told = listed(MIXED, "same", "t")
        self.assertIs(type(told), tuple)
        for boxes in told:
            self.assertIs(type(boxes), list)


class LeftAlone(unittest.TestCase):
    def test_the_house_stays_as_it_was(self):
        for house in [FRONT, KINDS, MIXED, DEEP] + some_houses(40):
            kept = copy.deepcopy(house)
            together(house)
            for ask in (lambda: apart(house), lambda: listed(house, house[0][0], "x")):
                try:
                    ask()
                except HoldError:
                    pass
            self.assertEqual(house, kept)

    def test_what_was_told_may_be_changed(self):
        for house, called, name in ((MIXED, "main", "v"), (FRONT, "far", "x"), (FRONT, "none", "x")):
            one, other = listed(house, called, name)
            kept = (list(one), list(other))
            one.append("zz")
            self.assertEqual(other, kept[1])
            other.insert(0, "aa")
            self.assertEqual(listed(house, called, name), kept)
            one.clear()
            other.clear()
            self.assertEqual(listed(house, called, name), kept)
