"""Promise 11: which rows are enough for what a name lists."""

import itertools
import unittest

from tests.houses import some_houses
from tests.oracles import (
    HANDED_ON, ONE_WORD, drawing, every_program, ladder, listed_by, moves, some_programs, walk,
)
from whoholds.asked import are_enough, asked
from whoholds.programs import names_of
from whoholds.rooms import apart
from whoholds.tables import least

SMALL = (
    ("new", "x", "b"), ("new", "y", "c"), ("put", "x", "s", "y"), ("take", "z", "s", "x"), ("new", "x", "c"),
    ("move", "w", "y"),
)


def alone(program, numbers):
    """The program of the rows of these numbers."""
    return tuple([program[number] for number in numbers])


def lists(program, name, by=listed_by):
    """What a name lists by a table of a program, which it need not stand in."""
    return by(program).get(("name", name), [])


def subsets(many):
    """Every rising list of numbers below this one."""
    return [list(numbers) for size in range(many + 1) for numbers in itertools.combinations(range(many), size)]


class Enough(unittest.TestCase):
    def test_ordinary_ones(self):
        for name, numbers, told in (
            ("z", [0, 1, 2, 3], True), ("z", [1, 2, 3], False), ("z", [0, 1, 2], False), ("z", [0, 1, 3], False),
            ("z", [1, 2, 3, 4], True), ("x", [0, 4], True), ("x", [0], False), ("x", [4], False),
            ("y", [1], True), ("y", [0, 2, 3, 4, 5], False), ("w", [1, 5], True), ("w", [5], False),
        ):
            self.assertIs(are_enough(SMALL, name, numbers), told, (name, numbers))

    def test_all_rows_and_no_rows(self):
        for program in [SMALL, HANDED_ON, ONE_WORD, (("move", "x", "y"),)] + some_programs(60, 7):
            for name in names_of(program):
                self.assertIs(are_enough(program, name, list(range(len(program)))), True, (program, name))
                self.assertIs(are_enough(program, name, []), lists(program, name) == [], (program, name))

    def test_all_but_one(self):
        for program in [SMALL, HANDED_ON, ONE_WORD] + some_programs(60, 8, "wxyz", "bcd"):
            for name in names_of(program):
                for left in range(len(program)):
                    numbers = [number for number in range(len(program)) if number != left]
                    told = lists(alone(program, numbers), name) == lists(program, name)
                    self.assertIs(are_enough(program, name, numbers), told, (program, name, left))

    def test_every_list_of_numbers(self):
        for program in [SMALL, HANDED_ON] + some_programs(12, 6) + every_program(2)[:60]:
            for name in names_of(program):
                whole = lists(program, name)
                for numbers in subsets(len(program)):
                    told = lists(alone(program, numbers), name) == whole
                    self.assertIs(are_enough(program, name, numbers), told, (program, name, numbers))

    def test_drawn_ones(self):
        one_of = drawing(5)
        for program in some_programs(80, 12, "uvwxyz", "bcd", "st"):
            numbers = [number for number in range(len(program)) if one_of((True, True, False))]
            for name in names_of(program):
                told = lists(alone(program, numbers), name) == lists(program, name)
                self.assertIs(are_enough(program, name, numbers), told, (program, name, numbers))

    def test_a_name_that_stands_in_none_of_the_rows(self):
        program = (("new", "x", "b"), ("move", "y", "x"), ("move", "z", "w"))
        self.assertIs(are_enough(program, "y", [0]), False)
        self.assertIs(are_enough(program, "y", [2]), False)
        self.assertIs(are_enough(program, "y", [0, 1]), True)
        for numbers in subsets(3):
            self.assertIs(are_enough(program, "z", numbers), True)
            self.assertIs(are_enough(program, "w", numbers), True)

    def test_another_name_may_list_less(self):
        program = (("new", "x", "b"), ("new", "y", "c"))
        self.assertIs(are_enough(program, "x", [0]), True)
        self.assertIs(are_enough(program, "y", [0]), False)

    def test_as_many_boxes_are_not_the_same_ones(self):
        program = (("new", "x", "b"), ("new", "x", "c"), ("new", "x", "b"))
        for numbers, told in (([0], False), ([1], False), ([0, 1], True), ([1, 2], True), ([0, 2], False)):
            self.assertIs(are_enough(program, "x", numbers), told, numbers)


class Asked(unittest.TestCase):
    def check(self, program, name, by=listed_by):
        told = asked(program, name)
        self.assertIs(type(told), tuple)
        boxes, rows = told
        self.assertEqual(boxes, lists(program, name, by), (program, name))
        self.assertIs(type(boxes), list)
        self.assertIs(type(rows), list)
        self.assertEqual(rows, sorted(set(rows)), (program, name))
        for number in rows:
            self.assertIs(type(number), int)
            self.assertIn(number, range(len(program)))
        self.assertEqual(lists(alone(program, rows), name, by), boxes, (program, name, rows))
        self.assertIs(are_enough(program, name, rows), True)
        for left in rows:
            fewer = [number for number in rows if number != left]
            self.assertNotEqual(lists(alone(program, fewer), name, by), boxes, (program, name, rows, left))
        return rows

    def test_where_there_is_but_one_such_list(self):
        for name, boxes, rows in (
            ("x", ["b", "c"], [0, 4]), ("y", ["c"], [1]), ("w", ["c"], [1, 5]),
        ):
            self.assertEqual(asked(SMALL, name), (boxes, rows))
        self.assertEqual(asked(HANDED_ON, "w"), (["c"], [0, 1, 2, 3, 4]))
        self.assertEqual(asked(HANDED_ON, "v"), (["b"], [0, 1, 2, 3, 4, 5, 6]))
        self.assertEqual(asked((("new", "x", "b"),), "x"), (["b"], [0]))

    def test_where_there_are_several(self):
        self.assertIn(asked(SMALL, "z"), ((["c"], [0, 1, 2, 3]), (["c"], [1, 2, 3, 4])))
        twice = (("new", "x", "b"), ("new", "x", "b"))
        self.assertIn(asked(twice, "x"), ((["b"], [0]), (["b"], [1])))

    def test_a_longer_way_may_be_told(self):
        program = (("new", "a", "b"), ("move", "z", "a"), ("move", "y", "a"), ("move", "z", "y"))
        for order in itertools.permutations(program):
            self.assertIn(len(self.check(order, "z")), (2, 3))

    def test_each_name(self):
        for program in [SMALL, HANDED_ON, ONE_WORD] + some_programs(80, 8, "wxyz", "bcd") + every_program(2):
            for name in names_of(program):
                self.check(program, name)

    def test_names_that_list_nothing(self):
        for program in ((("move", "x", "y"),), (("put", "x", "s", "y"), ("take", "y", "s", "x")),
                        (("new", "a", "b"), ("move", "x", "y"), ("move", "y", "x"))):
            self.assertEqual(asked(program, "x"), ([], []))
            self.assertEqual(asked(program, "y"), ([], []))

    def test_rows_twice_and_in_any_order(self):
        for program in [HANDED_ON[:5]] + some_programs(8, 5):
            for order in itertools.permutations(program):
                for name in names_of(program):
                    self.check(order, name, least)
            for name in names_of(program):
                one = self.check(program, name)
                self.assertTrue({number % len(program) for number in self.check(program * 3, name)} <= set(range(5)))
                self.assertTrue(len(one) <= len(program))

    def test_long_ways(self):
        for turned in (False, True):
            for many in (47, 59):
                program = moves(many, turned)
                self.assertEqual(asked(program, f"n{many}"), (["b"], list(range(many + 1))))
                half = asked(program, "n20")[1]
                self.assertEqual(alone(program, half), moves(20, turned))
            program = ladder(16, turned)
            self.assertEqual(asked(program, "n16"), (["b"], list(range(len(program)))))

    def test_boxes_in_slots_walked_through_a_ring_of_names(self):
        for turned in (False, True):
            for many, around in ((8, 3), (25, 4), (25, 7)):
                program = walk(many, around, turned)
                self.assertLessEqual(len(program), 60)
                for at in range(around):
                    boxes, rows = asked(program, f"r{at}")
                    self.assertEqual(boxes, [f"b{k:02}" for k in range(at, many + 1, around)])
                    self.assertIs(are_enough(program, f"r{at}", rows), True)
                    for left in rows:
                        self.assertIs(are_enough(program, f"r{at}", [k for k in rows if k != left]), False)

    def test_sixty_rows_with_several_things_beside(self):
        beside = (("new", "q", "b"), ("put", "q", "s", "p"), ("move", "p", "q"), ("take", "n3", "t", "q"))
        for turned in (False, True):
            program = beside + moves(47, turned) + beside * 2
            self.assertEqual(len(program), 60)
            self.assertEqual(asked(program, "n47"), (["b"], list(range(4, 52))))
            self.check(program, "n20", least)
            self.check(program, "p", least)
        for program in some_programs(4, 60, ["x", "y", "z", "u", "v", "w", "q", "r"], "bcdefg", "st"):
            for name in names_of(program):
                self.check(program, name, least)

    def test_programs_that_are_told_by_apart(self):
        rows = tuple([("call", "xyzuvwxyzuvw"[k], "low", ("xyzuvwxyzuvw"[k - 1],)) for k in range(10)])
        low = (("new", "a", "c"), ("put", "a", "s", "t"), ("move", "e", "d"), ("move", "d", "g"))
        low = (low + (("take", "g", "s", "a"),)) * 2 + (("move", "q", "a"), ("move", "g", "t"))
        for back in "eaq":
            program = apart((("top", (), (("new", "w", "b"),) + rows, "x"), ("low", ("t",), low, back)))
            self.assertGreater(len(program), 140)
            for name in ("top.x", "top.w", "top.a10.e", "top.a5.g"):
                self.check(program, name, least)
        for house in some_houses(30, ahead=True):
            program = apart(house)
            for name in names_of(program)[:3]:
                self.check(program, name, least)

    def test_two_hundred_rows(self):
        for turned in (False, True):
            self.assertEqual(asked(moves(199, turned), "n199"), (["b"], list(range(200))))


class LeftAlone(unittest.TestCase):
    def test_the_numbers_handed_in_stay(self):
        numbers = [0, 1, 3]
        are_enough(SMALL, "z", numbers)
        self.assertEqual(numbers, [0, 1, 3])
        self.assertIs(are_enough(SMALL, "w", numbers), False)
        numbers.append(5)
        self.assertIs(are_enough(SMALL, "w", numbers), True)

    def test_what_was_told_may_be_changed(self):
        for program, name in ((SMALL, "z"), (HANDED_ON, "v"), ((("move", "x", "y"),), "x")):
            boxes, rows = asked(program, name)
            kept = (list(boxes), list(rows))
            boxes.append("zz")
            self.assertEqual(rows, kept[1])
            rows.append(99)
            self.assertEqual(asked(program, name), kept)
            boxes.clear()
            rows.clear()
            self.assertEqual(asked(program, name), kept)
            self.assertEqual(least(program)[("name", name)], kept[0])
