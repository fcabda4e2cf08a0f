"""Promise 5: runs."""

import itertools
import unittest

from whoholds.runs import run


def by_history(program, numbers):
    """What a run tells, worked out backwards from the last row that has a say."""
    rows = [program[number] for number in numbers]

    def name_holds(name, end):
        for at in reversed(range(end)):
            row = rows[at]
            if row[0] != "put" and row[1] == name:
                if row[0] == "new":
                    return (row[2], len([r for r in rows[:at] if r[0] == "new" and r[2] == row[2]]))
                if row[0] == "move":
                    return name_holds(row[2], at)
                holder = name_holds(row[3], at)
                return None if holder is None else slot_holds(holder, row[2], at)
        return None

    def slot_holds(thing, slot, end):
        for at in reversed(range(end)):
            row = rows[at]
            if row[0] == "put" and row[2] == slot and name_holds(row[1], at) == thing:
                return name_holds(row[3], at)
        return None

    names = {part for row in rows for part in (row[1], row[-1])}
    things = [name_holds(row[1], at + 1) for at, row in enumerate(rows) if row[0] == "new"]
    places = [(thing, slot) for thing in things for slot in {row[2] for row in rows if row[0] == "put"}]
    held = {name: name_holds(name, len(rows)) for name in names}
    kept = {place: slot_holds(place[0], place[1], len(rows)) for place in places}
    return (
        {name: held[name] for name in held if held[name] is not None},
        {place: kept[place] for place in kept if kept[place] is not None},
    )


class Runs(unittest.TestCase):
    def check(self, program, numbers, names, slots):
        told = run(program, numbers)
        self.assertIs(type(told), tuple)
        self.assertEqual(told, (names, slots))

    def test_at_first_nothing_is_held(self):
        self.check((), [], {}, {})
        self.check((("new", "x", "b"),), [], {}, {})

    def test_new(self):
        program = (("new", "x", "b"), ("new", "y", "b"), ("new", "x", "c"))
        self.check(program, [0], {"x": ("b", 0)}, {})
        self.check(program, [0, 1], {"x": ("b", 0), "y": ("b", 1)}, {})
        self.check(program, [1, 0], {"y": ("b", 0), "x": ("b", 1)}, {})
        self.check(program, [0, 2], {"x": ("c", 0)}, {})
        self.check(program, [0, 2, 0, 2], {"x": ("c", 1)}, {})

    def test_the_same_number_again(self):
        self.check((("new", "x", "b"),), [0, 0, 0], {"x": ("b", 2)}, {})

    def test_a_row_that_stands_twice(self):
        self.check((("new", "x", "b"), ("new", "x", "b")), [1, 0, 1], {"x": ("b", 2)}, {})

    def test_rows_count_only_where_they_are_done(self):
        program = (("new", "x", "b"), ("new", "y", "b"), ("new", "z", "b"))
        self.check(program, [2], {"z": ("b", 0)}, {})

    def test_the_things_of_a_box_are_counted_though_nobody_holds_them(self):
        program = (("new", "x", "b"), ("move", "x", "y"))
        self.check(program, [0, 1], {}, {})
        self.check(program, [0, 1, 0], {"x": ("b", 1)}, {})

    def test_move(self):
        program = (("new", "x", "b"), ("move", "y", "x"), ("new", "x", "c"), ("move", "x", "x"))
        self.check(program, [0, 1], {"x": ("b", 0), "y": ("b", 0)}, {})
        self.check(program, [0, 1, 2], {"x": ("c", 0), "y": ("b", 0)}, {})
        self.check(program, [0, 3], {"x": ("b", 0)}, {})

    def test_move_where_nothing_is_held(self):
        program = (("move", "x", "y"), ("new", "x", "b"), ("move", "x", "x"))
        self.check(program, [0], {}, {})
        self.check(program, [2], {}, {})
        self.check(program, [1, 0], {}, {})

    def test_put(self):
        program = (("new", "x", "b"), ("new", "y", "c"), ("put", "x", "s", "y"), ("put", "x", "t", "x"))
        x, y = ("b", 0), ("c", 0)
        self.check(program, [0, 1, 2], {"x": x, "y": y}, {(x, "s"): y})
        self.check(program, [0, 3], {"x": x}, {(x, "t"): x})
        self.check(program, [0, 1, 2, 3], {"x": x, "y": y}, {(x, "s"): y, (x, "t"): x})

    def test_put_of_another_thing(self):
        program = (("new", "x", "b"), ("new", "y", "c"), ("put", "x", "s", "y"))
        self.check(program, [0, 1, 2, 1, 2], {"x": ("b", 0), "y": ("c", 1)}, {(("b", 0), "s"): ("c", 1)})

    def test_put_where_the_holder_holds_nothing(self):
        program = (("new", "y", "c"), ("put", "x", "s", "y"), ("new", "x", "b"), ("take", "z", "s", "x"))
        self.check(program, [1], {}, {})
        self.check(program, [0, 1], {"y": ("c", 0)}, {})
        self.check(program, [0, 1, 2, 3], {"y": ("c", 0), "x": ("b", 0)}, {})

    def test_put_of_nothing(self):
        program = (("new", "x", "b"), ("put", "x", "s", "y"), ("new", "y", "c"), ("move", "y", "z"))
        x = ("b", 0)
        self.check(program, [0, 1], {"x": x}, {})
        self.check(program, [0, 2, 1], {"x": x, "y": ("c", 0)}, {(x, "s"): ("c", 0)})
        self.check(program, [0, 2, 1, 3, 1], {"x": x}, {})

    def test_a_slot_is_of_the_thing_not_of_the_name(self):
        program = (
            ("new", "x", "b"), ("new", "y", "c"), ("put", "x", "s", "y"),
            ("move", "z", "x"), ("take", "w", "s", "z"), ("take", "w", "s", "x"),
        )
        first, second, y = ("b", 0), ("b", 1), ("c", 0)
        self.check(program, [0, 1, 2, 3, 4], {"x": first, "y": y, "z": first, "w": y}, {(first, "s"): y})
        self.check(program, [0, 1, 2, 3, 0, 4], {"x": second, "y": y, "z": first, "w": y}, {(first, "s"): y})
        self.check(program, [0, 1, 2, 3, 0, 5], {"x": second, "y": y, "z": first}, {(first, "s"): y})
        self.check(program, [0, 1, 2, 0, 2], {"x": second, "y": y}, {(first, "s"): y, (second, "s"): y})

    def test_take(self):
        program = (("new", "y", "b"), ("new", "v", "c"), ("put", "y", "s", "v"), ("take", "x", "s", "y"))
        y, v = ("b", 0), ("c", 0)
        self.check(program, [0, 1, 2, 3], {"y": y, "v": v, "x": v}, {(y, "s"): v})

    def test_take_into_the_name_itself(self):
        program = (("new", "y", "b"), ("put", "y", "s", "v"), ("new", "v", "c"), ("take", "y", "s", "y"))
        self.check(program, [0, 2, 1, 3], {"y": ("c", 0), "v": ("c", 0)}, {(("b", 0), "s"): ("c", 0)})

    def test_take_where_the_slot_holds_nothing(self):
        program = (
            ("new", "y", "b"), ("take", "x", "s", "y"), ("new", "x", "c"), ("put", "y", "t", "x"),
        )
        self.check(program, [0, 1], {"y": ("b", 0)}, {})
        self.check(program, [0, 2, 3, 1], {"y": ("b", 0)}, {(("b", 0), "t"): ("c", 0)})

    def test_take_where_the_other_holds_nothing(self):
        program = (("new", "x", "c"), ("take", "x", "s", "y"), ("put", "x", "s", "x"), ("take", "x", "s", "x"))
        self.check(program, [1], {}, {})
        self.check(program, [0, 1], {}, {})
        self.check(program, [0, 2, 1], {}, {(("c", 0), "s"): ("c", 0)})
        self.check(program, [3], {}, {})

    def test_one_word_as_name_box_and_slot(self):
        program = (("new", "a", "a"), ("put", "a", "a", "a"), ("take", "a", "a", "a"))
        a = ("a", 0)
        self.check(program, [0], {"a": a}, {})
        self.check(program, [0, 1], {"a": a}, {(a, "a"): a})
        self.check(program, [0, 2], {}, {})
        self.check(program, [0, 1, 2], {"a": a}, {(a, "a"): a})
        self.check(program, [0, 1, 0], {"a": ("a", 1)}, {(a, "a"): a})

    def test_words_that_are_kinds(self):
        program = (("new", "move", "put"), ("put", "move", "new", "move"), ("take", "new", "new", "move"))
        thing = ("put", 0)
        self.check(program, [0, 1, 2], {"move": thing, "new": thing}, {(thing, "new"): thing})

    def test_three_hundred_numbers_and_more(self):
        program = (("new", "x", "b"), ("put", "x", "s", "y"), ("move", "y", "x"))
        for many in (99, 100, 101, 1000):
            slots = {(("b", k), "s"): ("b", k - 1) for k in range(1, many)}
            last = ("b", many - 1)
            self.check(program, [0, 1, 2] * many, {"x": last, "y": last}, slots)
        self.check((("new", "x", "b"),), [0] * 300, {"x": ("b", 299)}, {})

    def test_more_rows_than_a_program_may_have(self):
        program = tuple([("new", f"x{k}", "b") for k in range(200)])
        numbers = list(reversed(range(200)))
        self.check(program, numbers, {f"x{k}": ("b", 199 - k) for k in range(200)}, {})

    def test_numbers_of_things_are_whole_numbers(self):
        names, _ = run((("new", "x", "b"), ("new", "y", "b")), [0, 1])
        for thing in names.values():
            self.assertIs(type(thing), tuple)
            self.assertIs(type(thing[1]), int)


class AgainstHistory(unittest.TestCase):
    def compare(self, program, most):
        for many in range(most + 1):
            for numbers in itertools.product(range(len(program)), repeat=many):
                self.assertEqual(run(program, list(numbers)), by_history(program, list(numbers)), (program, numbers))

    def test_every_short_run(self):
        self.compare((
            ("new", "x", "b"), ("new", "y", "b"), ("put", "x", "s", "y"), ("take", "y", "s", "x"),
            ("move", "y", "z"), ("put", "y", "s", "z"), ("take", "x", "s", "x"),
        ), 5)

    def test_every_run_with_two_slots(self):
        self.compare((
            ("new", "x", "b"), ("move", "y", "x"), ("put", "x", "s", "y"), ("put", "y", "t", "x"),
            ("take", "x", "s", "y"), ("take", "y", "t", "x"),
        ), 5)

    def test_runs_of_the_same_few_rows_again_and_again(self):
        program = (
            ("new", "x", "b"), ("new", "y", "c"), ("put", "x", "s", "y"), ("move", "z", "x"), ("put", "z", "s", "x"),
            ("take", "y", "s", "z"), ("move", "x", "y"), ("take", "z", "s", "x"),
        )
        for step in range(1, 30):
            numbers = [(k * step + k * k) % len(program) for k in range(40)]
            self.assertEqual(run(program, numbers), by_history(program, numbers), numbers)


class LeftAlone(unittest.TestCase):
    PROGRAM = (("new", "x", "b"), ("new", "y", "c"), ("put", "x", "s", "y"))

    def test_nothing_handed_in_is_changed(self):
        numbers = [0, 1, 2, 0, 2]
        run(self.PROGRAM, numbers)
        self.assertEqual(numbers, [0, 1, 2, 0, 2])
        self.assertEqual(self.PROGRAM, (("new", "x", "b"), ("new", "y", "c"), ("put", "x", "s", "y")))

    def test_the_list_handed_in_is_not_kept(self):
        numbers = [0, 1, 2]
        names, slots = run(self.PROGRAM, numbers)
        numbers.append(0)
        self.assertEqual(names, {"x": ("b", 0), "y": ("c", 0)})
        self.assertEqual(slots, {(("b", 0), "s"): ("c", 0)})

    def test_dicts_are_the_askers_own(self):
        names, slots = run(self.PROGRAM, [0, 1, 2])
        self.assertIs(type(names), dict)
        self.assertIs(type(slots), dict)
        names.clear()
        slots[(("b", 9), "s")] = ("b", 9)
        self.assertEqual(slots, {(("b", 0), "s"): ("c", 0), (("b", 9), "s"): ("b", 9)})
        self.assertEqual(
            run(self.PROGRAM, [0, 1, 2]), ({"x": ("b", 0), "y": ("c", 0)}, {(("b", 0), "s"): ("c", 0)})
        )

    def test_two_empty_dicts_are_two(self):
        names, slots = run((), [])
        names["x"] = ("b", 0)
        self.assertEqual(slots, {})
        self.assertEqual(run((), []), ({}, {}))

    def test_no_run_counts_on_from_another(self):
        for _ in range(3):
            self.assertEqual(run(self.PROGRAM, [0])[0], {"x": ("b", 0)})
