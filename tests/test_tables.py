"""Promises 6 and 7: tables, the least one, and what runs hold."""

import copy
import itertools
import unittest

from tests.oracles import (
    HANDED_ON, ONE_WORD, every_program, is_closed_by, ladder, listed_by, moves, some_programs,
)
from whoholds.programs import boxes_of, names_of, slots_of
from whoholds.runs import run
from whoholds.tables import is_closed, least

SMALL = (("new", "x", "b"), ("new", "y", "c"), ("put", "x", "s", "y"), ("take", "z", "s", "x"))
SMALL_LEAST = {
    ("name", "x"): ["b"], ("name", "y"): ["c"], ("name", "z"): ["c"],
    ("slot", "b", "s"): ["c"], ("slot", "c", "s"): [],
}


def is_within(table, other):
    """Whether a table lists nothing that the other one doesn't."""
    return all(set(table[place]) <= set(other.get(place, [])) for place in table)


class Least(unittest.TestCase):
    def check(self, program, table):
        told = least(program)
        self.assertEqual(told, table, program)
        self.assertIs(is_closed(program, told), True, program)

    def test_no_rows(self):
        self.check((), {})

    def test_each_kind_of_row_alone(self):
        self.check((("new", "x", "b"),), {("name", "x"): ["b"]})
        self.check((("move", "x", "y"),), {("name", "x"): [], ("name", "y"): []})
        self.check((("move", "x", "x"),), {("name", "x"): []})
        for kind in ("put", "take"):
            self.check(((kind, "x", "s", "y"),), {("name", "x"): [], ("name", "y"): []})
            self.check(((kind, "x", "s", "x"),), {("name", "x"): []})

    def test_new(self):
        self.check((("new", "x", "c"), ("new", "y", "b"), ("new", "x", "b")), {
            ("name", "x"): ["b", "c"], ("name", "y"): ["b"],
        })

    def test_move(self):
        self.check((("new", "x", "b"), ("move", "y", "x"), ("new", "y", "c")), {
            ("name", "x"): ["b"], ("name", "y"): ["b", "c"],
        })

    def test_put(self):
        program = (("new", "x", "b"), ("new", "x", "c"), ("new", "y", "d"), ("put", "x", "s", "y"))
        self.check(program, {
            ("name", "x"): ["b", "c"], ("name", "y"): ["d"],
            ("slot", "b", "s"): ["d"], ("slot", "c", "s"): ["d"], ("slot", "d", "s"): [],
        })

    def test_put_of_what_holds_nothing_and_into_what_holds_nothing(self):
        self.check((("new", "x", "b"), ("put", "x", "s", "y")), {
            ("name", "x"): ["b"], ("name", "y"): [], ("slot", "b", "s"): [],
        })
        self.check((("new", "y", "b"), ("put", "x", "s", "y")), {
            ("name", "x"): [], ("name", "y"): ["b"], ("slot", "b", "s"): [],
        })

    def test_take(self):
        self.check(SMALL, SMALL_LEAST)

    def test_a_take_reads_its_own_slot_alone(self):
        self.check((("new", "x", "b"), ("put", "x", "s", "x"), ("take", "y", "t", "x")), {
            ("name", "x"): ["b"], ("name", "y"): [], ("slot", "b", "s"): ["b"], ("slot", "b", "t"): [],
        })

    def test_a_take_reads_the_slots_of_the_boxes_that_its_name_lists(self):
        self.check((("new", "x", "b"), ("put", "x", "s", "x"), ("new", "y", "c"), ("take", "z", "s", "y")), {
            ("name", "x"): ["b"], ("name", "y"): ["c"], ("name", "z"): [],
            ("slot", "b", "s"): ["b"], ("slot", "c", "s"): [],
        })

    def test_a_slot_of_a_box_is_one_for_all_that_hold_it(self):
        self.check((("new", "x", "b"), ("put", "x", "s", "x"), ("new", "y", "b"), ("take", "z", "s", "y")), {
            ("name", "x"): ["b"], ("name", "y"): ["b"], ("name", "z"): ["b"], ("slot", "b", "s"): ["b"],
        })

    def test_boxes_handed_on_by_slots(self):
        self.check(HANDED_ON, {
            ("name", "v"): ["b"], ("name", "w"): ["c"], ("name", "x"): ["b"], ("name", "y"): ["c"],
            ("name", "z"): ["b"], ("slot", "b", "s"): ["c"], ("slot", "b", "t"): [],
            ("slot", "c", "s"): [], ("slot", "c", "t"): ["b"],
        })

    def test_one_word_as_name_box_and_slot(self):
        self.check(ONE_WORD, {("name", "a"): ["a"], ("slot", "a", "a"): ["a"]})

    def test_long_ways(self):
        for many in (59, 199):
            for turned in (False, True):
                self.check(moves(many, turned), {("name", f"n{k}"): ["b"] for k in range(many + 1)})
        for many in (19, 60):
            for turned in (False, True):
                table = {("name", f"n{k}"): ["b"] for k in range(many + 1)}
                table.update({("name", f"h{k}"): [f"c{k}"] for k in range(many)})
                table.update({("slot", f"c{k}", "s"): ["b"] for k in range(many)})
                table[("slot", "b", "s")] = []
                self.check(ladder(many, turned), table)

    def test_a_ring_of_moves(self):
        rows = [("move", f"n{(k + 1) % 50:02}", f"n{k:02}") for k in range(50)]
        program = tuple(rows + [("new", f"n{k:02}", f"b{k:02}") for k in range(0, 50, 5)])
        boxes = [f"b{k:02}" for k in range(0, 50, 5)]
        self.check(program, {("name", f"n{k:02}"): boxes for k in range(50)})

    def test_a_list_for_each_place_of_the_program_and_nothing_else(self):
        for program in some_programs(60, 6):
            places = {("name", name) for name in names_of(program)}
            places |= {("slot", box, slot) for box in boxes_of(program) for slot in slots_of(program)}
            table = least(program)
            self.assertEqual(set(table), places, program)
            for boxes in table.values():
                self.assertIs(type(boxes), list)
                self.assertEqual(boxes, sorted(set(boxes)))

    def test_against_rounds(self):
        for program in some_programs(150, 7) + some_programs(60, 12, "uvwxyz", "bcd", "st"):
            self.check(program, listed_by(program))

    def test_rows_in_another_order_and_twice_over(self):
        for program in some_programs(40, 5):
            table = least(program)
            self.assertEqual(least(program + program), table)
            for order in itertools.permutations(program):
                self.assertEqual(least(order), table)

    def test_more_rows_list_no_less(self):
        for program in some_programs(60, 12):
            for many in range(len(program)):
                self.assertTrue(is_within(least(program[:many]), least(program[:many + 1])), program)

    def test_it_lies_within_each_closed_table(self):
        places = [("name", "x"), ("name", "y"), ("slot", "b", "s"), ("slot", "c", "s")]
        lists = ([], ["b"], ["c"], ["b", "c"])
        tables = [dict(zip(places, chosen)) for chosen in itertools.product(lists, repeat=4)]
        for program in every_program(2) + some_programs(60, 4, "xy", "bc", "s"):
            closed = [table for table in tables if is_closed(program, table)]
            self.assertEqual(closed, [table for table in tables if is_closed_by(program, table)])
            meet = {place: set.intersection(*[set(table[place]) for table in closed]) for place in places}
            for place, boxes in least(program).items():
                self.assertEqual(set(boxes), meet[place], (program, place))


class Closed(unittest.TestCase):
    def test_no_place(self):
        self.assertIs(is_closed((), {}), True)
        for kind in ("put", "take"):
            self.assertIs(is_closed(((kind, "x", "s", "y"),), {}), True)
        self.assertIs(is_closed((("move", "x", "y"),), {}), True)
        self.assertIs(is_closed((("new", "x", "b"),), {}), False)
        self.assertIs(is_closed(SMALL, {}), False)

    def test_larger_ones(self):
        words = ["b", "c", "d"]
        places = [("name", name) for name in "uxyz"] + [("slot", box, slot) for box in words for slot in "st"]
        self.assertIs(is_closed(SMALL, {place: list(words) for place in places}), True)
        self.assertIs(is_closed((), {place: list(words) for place in places}), True)
        more = copy.deepcopy(SMALL_LEAST)
        more[("name", "z")] = ["a", "c", "d"]
        self.assertIs(is_closed(SMALL, more), True)
        more[("name", "x")] = ["b", "d"]
        self.assertIs(is_closed(SMALL, more), False)
        more[("slot", "d", "s")] = ["c"]
        self.assertIs(is_closed(SMALL, more), True)

    def test_each_thing_that_a_row_asks(self):
        for row, table, lacks in (
            (("new", "x", "b"), {("name", "x"): ["b"]}, ("name", "x")),
            (("move", "x", "y"), {("name", "y"): ["b", "c"], ("name", "x"): ["b", "c"]}, ("name", "x")),
            (("put", "x", "s", "y"), {
                ("name", "x"): ["d"], ("name", "y"): ["b", "c"], ("slot", "d", "s"): ["b", "c"],
            }, ("slot", "d", "s")),
            (("take", "x", "s", "y"), {
                ("name", "y"): ["d"], ("slot", "d", "s"): ["b", "c"], ("name", "x"): ["b", "c"],
            }, ("name", "x")),
        ):
            self.assertIs(is_closed((row,), table), True, row)
            for less in ([], table[lacks][1:], table[lacks][:-1], ["z"]):
                self.assertIs(is_closed((row,), {**table, lacks: less}), False, (row, less))
            self.assertIs(is_closed((row,), {place: table[place] for place in table if place != lacks}), False, row)
            self.assertIs(is_closed((row,), {**table, lacks: table[lacks] + ["z"]}), True, row)

    def test_each_change_of_the_least_one(self):
        for program in [SMALL, HANDED_ON, ONE_WORD] + some_programs(60, 6):
            table = least(program)
            for place in table:
                self.assertIs(
                    is_closed(program, {other: table[other] for other in table if other != place}),
                    table[place] == [],
                )
                for box in ("a", "b", "c"):
                    fewer = {**table, place: [other for other in table[place] if other != box]}
                    more = {**table, place: sorted({box, *table[place]})}
                    self.assertIs(is_closed(program, fewer), box not in table[place], (program, place, box))
                    self.assertIs(is_closed(program, more), is_closed_by(program, more), (program, place, box))

    def test_twice_and_out_of_order(self):
        for boxes in (["b", "b"], ["c", "b"], ["b", "c", "b"], ["b", "b", "c"], ["b9", "b10"]):
            for program in ((), (("new", "x", "b"),)):
                for place in (("name", "x"), ("name", "q"), ("slot", "b", "s")):
                    self.assertIs(is_closed(program, {("name", "x"): ["b"], place: boxes}), False, (place, boxes))
        self.assertIs(is_closed((("new", "x", "b10"),), {("name", "x"): ["b10", "b9"]}), True)

    def test_places_put_in_empty(self):
        for place in (("name", "q"), ("slot", "q", "q"), ("slot", "b", "q"), ("slot", "q", "s"), ("name", "name")):
            self.assertIs(is_closed(SMALL, {**SMALL_LEAST, place: []}), True, place)
            self.assertIs(is_closed((), {place: []}), True, place)
        fewer = {place: boxes for place, boxes in SMALL_LEAST.items() if boxes}
        self.assertIs(is_closed(SMALL, fewer), True)

    def test_strange_places(self):
        for place in (
            (), ("name",), ("slot",), ("slot", "b"), ("name", "x", "y"), ("slot", "b", "s", "s"), ("",), ("", ""),
            ("Name", "x"), ("names", "x"), ("box", "b"), ("new", "x"), ("x", "name"), ("name", ""), ("name", "X"),
            ("name", "9"), ("name", "x y"), ("name", "a" * 41), ("slot", "", "s"), ("slot", "b", ""),
            ("slot", "B", "s"), ("slot", "b", "S"), ("slot", "b", "s\n"), ("slots", "b", "s"), ("name ", "x"),
        ):
            for boxes in ([], ["b"]):
                self.assertIs(is_closed(SMALL, {**SMALL_LEAST, place: boxes}), False, place)
                self.assertIs(is_closed((), {place: boxes}), False, place)

    def test_strange_boxes(self):
        for word in ("", "B", "9b", ".", "b ", " b", "b-c", "a" * 41, "\n", "~"):
            for boxes in ([word], sorted([word, "c"])):
                self.assertIs(is_closed((), {("name", "x"): boxes}), False, boxes)
                self.assertIs(is_closed(SMALL, {**SMALL_LEAST, ("name", "q"): boxes}), False, boxes)
                self.assertIs(is_closed(SMALL, {**SMALL_LEAST, ("slot", "b", "q"): boxes}), False, boxes)

    def test_what_is_no_table_at_all(self):
        for program in ((), SMALL):
            for thing in (None, [], (), "", 0, True, list(SMALL_LEAST), "name"):
                self.assertIs(is_closed(program, thing), False, thing)
            for boxes in ((), ("b",), "b", {}, {"b": True}, None, 0, ["b", None], ["b", ["c"]], [True]):
                self.assertIs(is_closed(program, {**SMALL_LEAST, ("name", "q"): boxes}), False, boxes)
            for place in ("x", "", None, 0, True, "name", ("name", 1), ("name", None), (0, "x"), (("name",), "x")):
                self.assertIs(is_closed(program, {**SMALL_LEAST, place: []}), False, place)

    def test_words_that_the_program_does_not_use(self):
        table = {**SMALL_LEAST, ("name", "q" * 40): ["a", "a" * 40, "z.9"], ("slot", "k", "l"): ["m"]}
        self.assertIs(is_closed(SMALL, table), True)
        program = (("put", "x", "s", "y"), ("take", "z", "s", "x"))
        self.assertIs(is_closed(program, {("name", "x"): ["q"], ("name", "y"): ["r"]}), False)
        table = {("name", "x"): ["q"], ("name", "y"): ["r"], ("slot", "q", "s"): ["r"]}
        self.assertIs(is_closed(program, table), False)
        self.assertIs(is_closed(program, {**table, ("name", "z"): ["r"]}), True)


class InRuns(unittest.TestCase):
    def check(self, program, numbers, table):
        names, slots = run(program, numbers)
        for name, thing in names.items():
            self.assertIn(thing[0], table.get(("name", name), []), (program, numbers))
        for (holder, slot), thing in slots.items():
            self.assertIn(thing[0], table.get(("slot", holder[0], slot), []), (program, numbers))

    def test_every_short_run(self):
        for program in [HANDED_ON, ONE_WORD] + some_programs(15, 6):
            table = least(program)
            for many in range(5):
                for numbers in itertools.product(range(len(program)), repeat=many):
                    self.check(program, list(numbers), table)

    def test_long_runs(self):
        for program in some_programs(80, 14, "uvwxyz", "bcd", "st"):
            table = least(program)
            for step in range(1, 14):
                self.check(program, [(k * step + k * k // 14) % len(program) for k in range(300)], table)

    def test_what_is_listed_may_be_held(self):
        names, slots = run(HANDED_ON, list(range(len(HANDED_ON))))
        held = {name: thing[0] for name, thing in names.items()}
        self.assertEqual(held, {"x": "b", "y": "c", "z": "b", "w": "c", "v": "b"})
        self.assertEqual(slots, {(("b", 0), "s"): ("c", 0), (("c", 0), "t"): ("b", 0)})

    def test_each_closed_table_lists_it(self):
        table = {place: ["b", "c"] for place in least(HANDED_ON)}
        self.assertIs(is_closed(HANDED_ON, table), True)
        for numbers in itertools.permutations(range(len(HANDED_ON)), 5):
            self.check(HANDED_ON, list(numbers), table)


class LeftAlone(unittest.TestCase):
    def test_what_was_told_may_be_changed(self):
        for program in (SMALL, HANDED_ON, ONE_WORD):
            first, kept = least(program), least(program)
            for boxes in first.values():
                boxes.append("zz")
            first[("name", "zz")] = ["zz"]
            self.assertEqual(least(program), kept)
            first.clear()
            self.assertEqual(least(program), kept)

    def test_every_list_is_another(self):
        told = least((("move", "x", "y"), ("move", "y", "x"), ("put", "x", "s", "y"), ("new", "x", "b")))
        for place in list(told):
            told[place].append("zz")
            self.assertEqual(sum([boxes.count("zz") for boxes in told.values()]), 1)
            told[place].pop()

    def test_the_table_handed_in_stays(self):
        for program in (SMALL, (("move", "q", "x"),), ()):
            for table in (SMALL_LEAST, {}, {("name", "x"): ["c", "b"]}, {(): [""], ("slot", "b"): []}):
                handed = copy.deepcopy(table)
                is_closed(program, handed)
                self.assertEqual(list(handed.items()), list(table.items()))

    def test_the_table_handed_in_is_not_kept(self):
        handed = copy.deepcopy(SMALL_LEAST)
        self.assertIs(is_closed(SMALL, handed), True)
        handed[("name", "x")].clear()
        self.assertIs(is_closed(SMALL, handed), False)
        self.assertEqual(least(SMALL), SMALL_LEAST)
