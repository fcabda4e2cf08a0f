"""Promise 15: rings of names, and folded programs."""

import itertools
import unittest

from tests.oracles import HANDED_ON, ONE_WORD, every_program, listed_by, moves, some_programs, walk
from whoholds.folded import folded, rings
from whoholds.programs import names_of
from whoholds.tables import least

TWO_RINGS = (
    ("new", "p", "b"), ("move", "d", "c"), ("move", "c", "d"), ("put", "d", "s", "b"), ("move", "b", "a"),
    ("put", "c", "s", "a"), ("move", "e", "b"), ("move", "a", "e"), ("take", "q", "s", "d"), ("move", "c", "p"),
    ("move", "f", "f"), ("move", "d", "p"), ("new", "e", "c"), ("move", "b", "a"),
)
TWO_FOLDED = (
    ("new", "p", "b"), ("put", "c", "s", "a"), ("take", "q", "s", "c"), ("move", "c", "p"), ("new", "a", "c"),
)
TWO_HEADS = {"a": "a", "b": "a", "c": "c", "d": "c", "e": "a", "f": "f", "p": "p", "q": "q"}


def ring(*names):
    """Moves through these names and back to the first one."""
    return tuple([("move", y, x) for x, y in zip(names, names[1:] + names[:1])])


def rings_by(program):
    """The rings, by the pairs of names that lead to each other."""
    leads = {(row[2], row[1]) for row in program if row[0] == "move"}
    while True:
        more = {(a, d) for a, b in leads for c, d in leads if b == c} - leads
        if not more:
            break
        leads |= more
    told = []
    for name in names_of(program):
        one = sorted({name} | {other for a, other in leads if a == name and (other, name) in leads})
        if len(one) > 1 and one not in told:
            told.append(one)
    return sorted(told)


def folded_by(program):
    """The folded program and the dict."""
    heads = {name: name for name in names_of(program)}
    heads.update({name: one[0] for one in rings_by(program) for name in one})
    rows = []
    for kind, x, *middle, last in program:
        rows.append((kind, heads[x], *middle, last if kind == "new" else heads[last]))
    rows = [row for row in rows if row[0] != "move" or row[1] != row[2]]
    return tuple([row for at, row in enumerate(rows) if row not in rows[:at]]), heads


class Rings(unittest.TestCase):
    def test_none(self):
        for program in ((), (("new", "x", "b"),), (("move", "x", "y"),), (("move", "x", "x"),), moves(59, False),
                        (("move", "x", "y"), ("move", "y", "z"), ("move", "x", "z")), HANDED_ON, ONE_WORD):
            self.assertEqual(rings(program), [])

    def test_one(self):
        self.assertEqual(rings((("move", "y", "x"), ("move", "x", "y"))), [["x", "y"]])
        self.assertEqual(rings(ring("c", "a", "b")), [["a", "b", "c"]])
        self.assertEqual(rings(ring("c", "a", "b") + (("move", "d", "a"), ("move", "b", "e"))), [["a", "b", "c"]])

    def test_several(self):
        self.assertEqual(rings(TWO_RINGS), [["a", "b", "e"], ["c", "d"]])
        program = ring("z", "b") + ring("c", "y", "x") + ring("a", "w") + (("move", "a", "x"), ("move", "z", "x"))
        told = [["a", "w"], ["b", "z"], ["c", "x", "y"]]
        for order in (program, tuple(reversed(program)), tuple(sorted(program))):
            self.assertEqual(rings(order), told)

    def test_rings_that_lead_to_one_another(self):
        program = ring("a", "b") + ring("c", "d") + (("move", "c", "a"),)
        self.assertEqual(rings(program), [["a", "b"], ["c", "d"]])
        self.assertEqual(rings(program + (("move", "b", "d"),)), [["a", "b", "c", "d"]])

    def test_by_several_ways(self):
        program = ring("a", "b", "c") + ring("a", "c") + ring("b", "d", "a")
        self.assertEqual(rings(program), [["a", "b", "c", "d"]])
        self.assertEqual(rings(ring("a", "b", "c") + ring("c", "b", "a")), [["a", "b", "c"]])

    def test_a_move_of_a_name_to_itself(self):
        self.assertEqual(rings((("move", "x", "x"), ("move", "y", "x"))), [])
        self.assertEqual(rings(ring("x", "y") + (("move", "x", "x"),)), [["x", "y"]])

    def test_moves_alone_lead(self):
        for rows in (
            (("put", "x", "s", "y"), ("take", "y", "s", "x")), (("move", "x", "y"), ("take", "y", "s", "x")),
            (("move", "x", "y"), ("put", "x", "s", "y")), (("move", "x", "y"), ("move", "x", "y")),
            (("new", "x", "y"), ("new", "y", "x"), ("move", "x", "y")),
        ):
            self.assertEqual(rings(rows), [])

    def test_long_ones(self):
        names = [f"n{k:02}" for k in range(60)]
        for order in (names, names[::-1], names[::7] + [name for at, name in enumerate(names) if at % 7]):
            self.assertEqual(rings(ring(*order)), [names])
            self.assertEqual(rings(ring(*order)[1:]), [])

    def test_figures_and_points_sort_as_texts(self):
        self.assertEqual(rings(ring("a10", "a9", "a.9")), [["a.9", "a10", "a9"]])

    def test_drawn_programs(self):
        programs = some_programs(150, 14, "uvwxyz") + every_program(2) + every_program(3, "xyz"[:2], "b")[:400]
        for program in programs + [tuple([row for row in one if row[0] == "move"]) for one in programs[:150]]:
            self.assertEqual(rings(program), rings_by(program), program)
        for order in itertools.permutations(ring("a", "b") + ring("c", "b", "d")):
            self.assertEqual(rings(order), [["a", "b", "c", "d"]])

    def test_names_of_one_ring_list_the_same(self):
        for program in some_programs(80, 16) + [TWO_RINGS, walk(6, 3, False)]:
            table = least(program)
            for one in rings(program):
                self.assertIs(type(one), list)
                for name in one:
                    self.assertEqual(table[("name", name)], table[("name", one[0])])


class Folded(unittest.TestCase):
    def check(self, program):
        told = folded(program)
        self.assertIs(type(told), tuple)
        self.assertEqual(told, folded_by(program), program)
        other, heads = told
        self.assertIs(type(other), tuple)
        self.assertIs(type(heads), dict)
        self.assertEqual(sorted(heads), names_of(program))
        self.assertEqual(folded(other), (other, {name: name for name in names_of(other)}), program)
        self.assertEqual(rings(other), [])
        one, two = listed_by(program), listed_by(other)
        for name, head in heads.items():
            self.assertEqual(two.get(("name", head), []), one[("name", name)], (program, name))
        slots = {place: boxes for place, boxes in one.items() if place[0] == "slot"}
        self.assertEqual({place: boxes for place, boxes in two.items() if place[0] == "slot"}, slots, program)

    def test_no_rows(self):
        self.assertEqual(folded(()), ((), {}))

    def test_two_rings(self):
        self.assertEqual(folded(TWO_RINGS), (TWO_FOLDED, TWO_HEADS))
        self.check(TWO_RINGS)

    def test_a_program_without_rings(self):
        for program in (HANDED_ON, moves(20, True), (("move", "x", "y"), ("put", "y", "s", "x"))):
            self.assertEqual(folded(program), (program, {name: name for name in names_of(program)}))

    def test_each_kind_of_row(self):
        turn = ring("a", "z")
        for row, told in (
            (("new", "z", "z"), ("new", "a", "z")), (("put", "z", "z", "z"), ("put", "a", "z", "a")),
            (("put", "z", "z", "y"), ("put", "a", "z", "y")), (("put", "y", "z", "z"), ("put", "y", "z", "a")),
            (("take", "z", "z", "z"), ("take", "a", "z", "a")), (("take", "z", "z", "y"), ("take", "a", "z", "y")),
            (("take", "y", "z", "z"), ("take", "y", "z", "a")), (("move", "y", "z"), ("move", "y", "a")),
            (("move", "z", "y"), ("move", "a", "y")),
        ):
            self.assertEqual(folded(turn + (row,))[0], (told,))
            self.assertEqual(folded((row,) + turn)[0], (told,))
            self.check(turn + (row,))

    def test_moves_of_a_name_to_itself_are_left_out(self):
        self.assertEqual(folded((("move", "x", "x"),)), ((), {"x": "x"}))
        program = (("move", "x", "x"), ("new", "y", "b"), ("move", "y", "y"))
        self.assertEqual(folded(program), ((("new", "y", "b"),), {"x": "x", "y": "y"}))
        self.assertEqual(folded(ring("a", "b") + (("move", "b", "b"),)), ((), {"a": "a", "b": "a"}))
        self.assertEqual(folded((("put", "x", "s", "x"), ("take", "x", "s", "x")))[0], (
            ("put", "x", "s", "x"), ("take", "x", "s", "x"),
        ))

    def test_rows_that_stand_ahead_are_left_out(self):
        program = (("new", "x", "b"), ("move", "y", "x"), ("new", "x", "b"), ("new", "x", "c"), ("move", "y", "x"))
        self.assertEqual(folded(program)[0], (("new", "x", "b"), ("move", "y", "x"), ("new", "x", "c")))
        program = (("new", "b", "q"), ("move", "c", "b")) + ring("a", "b") + (("move", "c", "a"), ("new", "a", "q"))
        self.assertEqual(folded(program)[0], (("new", "a", "q"), ("move", "c", "a")))
        self.check(program)

    def test_rows_that_are_nearly_the_same_stay(self):
        program = (
            ("put", "x", "s", "y"), ("take", "x", "s", "y"), ("put", "y", "s", "x"), ("put", "x", "t", "y"),
            ("move", "x", "y"), ("new", "x", "y"), ("new", "y", "x"),
        )
        self.assertEqual(folded(program)[0], program)

    def test_a_name_that_stands_in_no_row_any_more(self):
        program = ring("a", "b") + (("move", "c", "c"),)
        self.assertEqual(folded(program), ((), {"a": "a", "b": "a", "c": "c"}))
        self.check(program)

    def test_one_word_as_name_box_and_slot(self):
        self.assertEqual(folded(ONE_WORD), (ONE_WORD[:3], {"a": "a"}))
        program = ring("a", "b") + (("new", "b", "b"), ("put", "b", "b", "b"), ("take", "b", "a", "b"))
        self.assertEqual(folded(program)[0], (("new", "a", "b"), ("put", "a", "b", "a"), ("take", "a", "a", "a")))

    def test_drawn_programs(self):
        for program in some_programs(150, 12) + some_programs(60, 20, "uvwxyz", "bcd", "st") + every_program(2):
            self.check(program)
        for program in some_programs(60, 40, "uvwxyz"):
            self.check(tuple([row for at, row in enumerate(program) if row[0] == "move" or at % 5 == 0]))


class LeftAlone(unittest.TestCase):
    def test_what_was_told_may_be_changed(self):
        told = rings(TWO_RINGS)
        told[0].append("zz")
        self.assertEqual(told[1], ["c", "d"])
        told.clear()
        self.assertEqual(rings(TWO_RINGS), [["a", "b", "e"], ["c", "d"]])
        rings(()).append(["zz"])
        self.assertEqual(rings(()), [])
        heads = folded(TWO_RINGS)[1]
        heads["a"] = "zz"
        self.assertEqual(folded(TWO_RINGS), (TWO_FOLDED, TWO_HEADS))
        folded(())[1]["a"] = "a"
        self.assertEqual(folded(()), ((), {}))
