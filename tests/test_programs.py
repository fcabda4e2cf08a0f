"""Promise 4: words, rows and programs, and what a program uses."""

import copy
import unittest

from tests.samples import FIGURES, PRINTABLE, SMALL, no_words, plain_things, things_of_things
from whoholds.programs import boxes_of, is_program, is_row, is_word, names_of, slots_of

ROWS = (("new", "x", "b"), ("move", "x", "y"), ("put", "x", "s", "y"), ("take", "x", "s", "y"))


class Words(unittest.TestCase):
    def test_ordinary_words(self):
        for text in ("a", "z", "abc", "a1", "front.a2", "a.", "a..", "z9.z9", "new", "move", "x0", "a" * 39):
            self.assertIs(is_word(text), True, text)

    def test_count_of_signs(self):
        self.assertIs(is_word(""), False)
        self.assertIs(is_word("a"), True)
        self.assertIs(is_word("a" * 40), True)
        self.assertIs(is_word("a" * 41), False)
        self.assertIs(is_word("a" + "9" * 39), True)
        self.assertIs(is_word("a" + "." * 40), False)
        self.assertIs(is_word("a" * 100000), False)

    def test_every_first_sign(self):
        for sign in PRINTABLE:
            self.assertIs(is_word(sign), sign in SMALL, repr(sign))
            self.assertIs(is_word(sign + "b"), sign in SMALL, repr(sign))

    def test_every_further_sign(self):
        for sign in PRINTABLE:
            asked = sign in SMALL + FIGURES + "."
            for text in ("a" + sign, "a" + sign + "b", "ab" + sign, "a" * 39 + sign):
                self.assertIs(is_word(text), asked, repr(text))

    def test_signs_that_only_look_like_letters_and_figures(self):
        for sign in ("\u00e4", "\u00df", "\u00aa", "\u00b2", "\u0663", "\uff41", "\u0430", "\u0131", "\x00", "\x7f"):
            for text in (sign, "a" + sign, sign + "a", "a" + sign + "a"):
                self.assertIs(is_word(text), False, repr(text))

    def test_other_things_are_no_words(self):
        for thing in no_words():
            self.assertIs(is_word(thing), False, repr(thing))
        for thing in (["a"], ("a",), {"a": "a"}, b"a"):
            self.assertIs(is_word(thing), False, repr(thing))


class Rows(unittest.TestCase):
    def test_ordinary_rows(self):
        for row in ROWS:
            self.assertIs(is_row(row), True, row)

    def test_one_word_may_stand_everywhere(self):
        for kind, many in (("new", 2), ("move", 2), ("put", 3), ("take", 3)):
            for word in ("x", "new", "put", "a" * 40, "a.1"):
                self.assertIs(is_row((kind,) + (word,) * many), True)

    def test_the_kind(self):
        for kind in ("", "New", "NEW", "new ", " new", "news", "ne", "moves", "call", "mov", "x", "copy", "get"):
            for many in (0, 1, 2, 3, 4):
                self.assertIs(is_row((kind,) + ("x",) * many), False, (kind, many))
        for kind in no_words():
            for many in (2, 3):
                self.assertIs(is_row((kind,) + ("x",) * many), False, (kind, many))

    def test_the_count_of_the_parts(self):
        for kind, asked in (("new", 2), ("move", 2), ("put", 3), ("take", 3)):
            for many in range(7):
                self.assertIs(is_row((kind,) + ("x",) * many), many == asked, (kind, many))
        self.assertIs(is_row(()), False)

    def test_a_list_for_a_tuple(self):
        for row in ROWS:
            self.assertIs(is_row(list(row)), False, row)
            self.assertIs(is_row({part: part for part in row}), False, row)
            self.assertIs(is_row("".join(row)), False, row)
            self.assertIs(is_row((row,)), False, row)

    def test_each_part_is_a_word(self):
        for row in ROWS:
            for at in range(1, len(row)):
                for thing in no_words():
                    self.assertIs(is_row(row[:at] + (thing,) + row[at + 1:]), False, (row, at, thing))
                for thing in ("z", "z" * 40, "z.9"):
                    self.assertIs(is_row(row[:at] + (thing,) + row[at + 1:]), True, (row, at, thing))

    def test_truths_are_no_words(self):
        for row in ROWS:
            for at in range(len(row)):
                for truth in (True, False, 0, 1):
                    self.assertIs(is_row(row[:at] + (truth,) + row[at + 1:]), False)

    def test_other_things_are_no_rows(self):
        for thing in plain_things() + things_of_things() + [("new",), ("n", "e", "w"), "new", "put", ROWS]:
            self.assertIs(is_row(thing), False, repr(thing))


class Programs(unittest.TestCase):
    def test_ordinary_programs(self):
        self.assertIs(is_program(ROWS), True)
        for row in ROWS:
            self.assertIs(is_program((row,)), True)

    def test_count_of_rows(self):
        self.assertIs(is_program(()), True)
        for row in ROWS:
            for many in (1, 2, 59, 60):
                self.assertIs(is_program((row,) * many), True, many)
            for many in (61, 62, 1000):
                self.assertIs(is_program((row,) * many), False, many)
        unlike = tuple([("new", f"x{k}", "b") for k in range(61)])
        self.assertIs(is_program(unlike[:60]), True)
        self.assertIs(is_program(unlike), False)

    def test_rows_may_stand_twice(self):
        self.assertIs(is_program(ROWS + ROWS), True)

    def test_one_word_as_name_box_and_slot(self):
        self.assertIs(is_program((("new", "a", "a"), ("put", "a", "a", "a"), ("take", "a", "a", "a"))), True)

    def test_a_list_for_a_tuple(self):
        self.assertIs(is_program([]), False)
        self.assertIs(is_program({}), False)
        self.assertIs(is_program(""), False)
        self.assertIs(is_program(list(ROWS)), False)
        self.assertIs(is_program({row: True for row in ROWS}), False)
        self.assertIs(is_program((list(ROWS[0]),)), False)

    def test_a_row_is_no_program(self):
        for row in ROWS:
            self.assertIs(is_program(row), False)
            self.assertIs(is_program(((row,),)), False)

    def test_each_part_is_a_row(self):
        for thing in plain_things() + things_of_things() + [(), ("new", "x"), ("new", "x", "B"), "x"]:
            for at in range(len(ROWS) + 1):
                self.assertIs(is_program(ROWS[:at] + (thing,) + ROWS[at:]), False, (at, thing))

    def test_other_things_are_no_programs(self):
        for thing in plain_things() + things_of_things():
            self.assertIs(is_program(thing), False, repr(thing))


class Used(unittest.TestCase):
    def test_of_no_row(self):
        self.assertEqual(names_of(()), [])
        self.assertEqual(boxes_of(()), [])
        self.assertEqual(slots_of(()), [])

    def test_of_one_row(self):
        for row, names, boxes, slots in (
            (("new", "n", "m"), ["n"], ["m"], []),
            (("move", "n", "m"), ["m", "n"], [], []),
            (("move", "m", "n"), ["m", "n"], [], []),
            (("move", "n", "n"), ["n"], [], []),
            (("put", "n", "k", "m"), ["m", "n"], [], ["k"]),
            (("take", "n", "k", "m"), ["m", "n"], [], ["k"]),
            (("take", "m", "z", "n"), ["m", "n"], [], ["z"]),
        ):
            self.assertEqual(names_of((row,)), names, row)
            self.assertEqual(boxes_of((row,)), boxes, row)
            self.assertEqual(slots_of((row,)), slots, row)

    def test_rising_and_each_once(self):
        program = (
            ("new", "z", "q"), ("take", "c", "u", "a"), ("new", "z", "p"), ("put", "b", "t", "y"),
            ("move", "y", "a10"), ("new", "a9", "q"), ("put", "b", "t", "y"), ("take", "a.", "s", "b"),
        )
        self.assertEqual(names_of(program), ["a", "a.", "a10", "a9", "b", "c", "y", "z"])
        self.assertEqual(boxes_of(program), ["p", "q"])
        self.assertEqual(slots_of(program), ["s", "t", "u"])

    def test_one_word_as_name_box_and_slot(self):
        program = (("new", "w", "w"), ("put", "w", "w", "w"), ("take", "w", "w", "w"), ("move", "w", "w"))
        self.assertEqual(names_of(program), ["w"])
        self.assertEqual(boxes_of(program), ["w"])
        self.assertEqual(slots_of(program), ["w"])

    def test_words_that_are_kinds(self):
        program = (("new", "put", "take"), ("move", "new", "move"), ("put", "take", "new", "put"))
        self.assertEqual(names_of(program), ["move", "new", "put", "take"])
        self.assertEqual(boxes_of(program), ["take"])
        self.assertEqual(slots_of(program), ["new"])

    def test_more_rows_than_a_program_may_have(self):
        rows = [("new", f"x{k:03}", f"b{k % 7}") for k in range(200)]
        rows += [("put", f"x{k:03}", f"s{k % 3}", "y") for k in range(200)]
        program = tuple(reversed(rows))
        self.assertEqual(names_of(program), [f"x{k:03}" for k in range(200)] + ["y"])
        self.assertEqual(boxes_of(program), [f"b{k}" for k in range(7)])
        self.assertEqual(slots_of(program), ["s0", "s1", "s2"])


class LeftAlone(unittest.TestCase):
    def test_nothing_handed_in_is_changed(self):
        for told in (is_word, is_row, is_program):
            for thing in no_words():
                before = copy.deepcopy(thing)
                told(thing)
                self.assertEqual(repr(thing), repr(before))

    def test_lists_are_the_askers_own(self):
        for told in (names_of, boxes_of, slots_of):
            first = told(ROWS)
            kept = list(first)
            self.assertIs(type(first), list)
            self.assertIsNot(told(ROWS), first)
            first.append("zz")
            first[0] = "changed"
            self.assertEqual(told(ROWS), kept)
            told(()).append("zz")
            self.assertEqual(told(()), [])
