"""Promise 10: likeness."""

import itertools
import unittest

from tests.oracles import HANDED_ON, ONE_WORD, alike_by, every_program, ladder, moves, some_programs
from whoholds.likeness import are_alike, boxes_alike, classes
from whoholds.programs import boxes_of, names_of
from whoholds.tables import least


def nodes_of(program):
    """The nodes of a program."""
    return [("name", name) for name in names_of(program)] + [("box", box) for box in boxes_of(program)]


def boxed(*words):
    """The class of these boxes alone."""
    return [("box", word) for word in words]


class Likeness(unittest.TestCase):
    def check(self, program, together, holders):
        """The classes of boxes, and a dict from names and first boxes to the first box of what they hold."""
        told, holds = classes(program)
        names = [[("name", name)] for name in names_of(program)]
        self.assertEqual(told, [boxed(*words) for words in together] + names, program)
        first = {told[number][0]: told[held][0][1] for number, held in holds.items()}
        self.assertEqual(first, holders, program)

    def test_no_rows(self):
        self.assertEqual(classes(()), ([], {}))

    def test_rows_from_which_nothing_follows(self):
        for row in (("move", "x", "y"), ("put", "x", "s", "y"), ("take", "x", "s", "y")):
            self.assertEqual(classes((row,)), ([[("name", "x")], [("name", "y")]], {}))
        self.assertEqual(classes((("move", "x", "x"), ("put", "x", "x", "x"))), ([[("name", "x")]], {}))

    def test_new(self):
        self.assertEqual(classes((("new", "x", "b"),)), ([[("box", "b")], [("name", "x")]], {1: 0}))
        self.assertEqual(classes((("new", "b", "x"),)), ([[("box", "x")], [("name", "b")]], {1: 0}))
        self.check((("new", "x", "c"), ("new", "y", "b")), ["b", "c"], {("name", "x"): "c", ("name", "y"): "b"})

    def test_where_a_class_holds_two(self):
        self.check((("new", "x", "c"), ("new", "x", "b")), ["bc"], {("name", "x"): "b"})
        self.check(
            (("new", "x", "c"), ("new", "x", "b"), ("new", "y", "c"), ("new", "y", "d")), ["bcd"],
            {("name", "x"): "b", ("name", "y"): "b"},
        )

    def test_move_either_way(self):
        for row in (("move", "x", "y"), ("move", "y", "x")):
            self.check((("new", "x", "b"), row), ["b"], {("name", "x"): "b", ("name", "y"): "b"})
            self.check(
                (row, ("new", "x", "b"), ("new", "y", "c")), ["bc"], {("name", "x"): "b", ("name", "y"): "b"},
            )

    def test_put_either_way(self):
        put = ("put", "x", "s", "y")
        self.check((("new", "x", "b"), put), ["b"], {("name", "x"): "b"})
        self.check((("new", "y", "c"), put), ["c"], {("name", "y"): "c"})
        self.check((("new", "x", "b"), ("new", "y", "c"), put), ["b", "c"], {
            ("name", "x"): "b", ("name", "y"): "c", ("box", "b"): "c",
        })
        self.check((("new", "x", "b"), ("new", "y", "c"), put, ("put", "x", "t", "z")), ["b", "c"], {
            ("name", "x"): "b", ("name", "y"): "c", ("name", "z"): "c", ("box", "b"): "c",
        })

    def test_take_either_way(self):
        take = ("take", "x", "s", "y")
        self.check((("new", "x", "b"), take), ["b"], {("name", "x"): "b"})
        self.check((("new", "y", "c"), take), ["c"], {("name", "y"): "c"})
        self.check((("new", "x", "b"), ("new", "y", "c"), take), ["b", "c"], {
            ("name", "x"): "b", ("name", "y"): "c", ("box", "c"): "b",
        })
        self.check((("new", "x", "b"), ("new", "y", "c"), take, ("take", "z", "t", "y")), ["b", "c"], {
            ("name", "x"): "b", ("name", "y"): "c", ("name", "z"): "b", ("box", "c"): "b",
        })

    def test_slots_are_not_told_apart(self):
        program = (
            ("new", "x", "b"), ("new", "y", "c"), ("new", "z", "d"), ("put", "x", "s", "y"), ("put", "x", "t", "z"),
        )
        self.check(program, ["b", "cd"], {
            ("name", "x"): "b", ("name", "y"): "c", ("name", "z"): "c", ("box", "b"): "c",
        })

    def test_a_class_may_hold_itself(self):
        self.check((("new", "x", "b"), ("put", "x", "s", "x")), ["b"], {("name", "x"): "b", ("box", "b"): "b"})
        self.check(
            (("new", "x", "b"), ("put", "x", "s", "y"), ("new", "y", "c"), ("take", "x", "s", "x")), ["bc"],
            {("name", "x"): "b", ("name", "y"): "b", ("box", "b"): "b"},
        )

    def test_what_joined_classes_hold_comes_together(self):
        rows = [("new", "a", "a0"), ("new", "b", "b0"), ("move", "b", "a")]
        for k in range(4):
            rows += [("new", f"x{k}", f"a{k}"), ("new", f"y{k}", f"a{k + 1}"), ("put", f"x{k}", "s", f"y{k}")]
            rows += [("new", f"u{k}", f"b{k}"), ("new", f"v{k}", f"b{k + 1}"), ("put", f"u{k}", "s", f"v{k}")]
        for program in (tuple(rows), tuple(reversed(rows)), tuple(sorted(rows))):
            told, holds = classes(program)
            self.assertEqual(told[:5], [boxed(f"a{k}", f"b{k}") for k in range(5)])
            self.assertEqual([holds.get(k) for k in range(5)], [1, 2, 3, 4, None])
            apart = classes(tuple([row for row in program if row[0] != "move"]))
            self.assertEqual(apart[0][:10], [boxed(f"a{k}") for k in range(5)] + [boxed(f"b{k}") for k in range(5)])

    def test_what_follows_only_after_classes_joined(self):
        rows = [
            ("take", "z", "s", "v"), ("move", "p", "q"), ("new", "p", "a"), ("new", "q", "b"), ("new", "v", "b"),
            ("new", "u", "a"), ("new", "w", "c"), ("put", "u", "s", "w"),
        ]
        holders = {("name", name): "a" for name in "pquv"}
        holders.update({("name", "w"): "c", ("name", "z"): "c", ("box", "a"): "c"})
        for at in range(len(rows)):
            program = tuple(rows[at:] + rows[:at])
            for order in (program, tuple(reversed(program))):
                self.check(order, ["ab", "c"], holders)

    def test_one_word_as_name_box_and_slot(self):
        self.assertEqual(classes(ONE_WORD), ([[("box", "a")], [("name", "a")]], {0: 0, 1: 0}))
        self.assertEqual(boxes_alike(ONE_WORD, "a"), ["a"])
        self.assertIs(are_alike(ONE_WORD, ("box", "a"), ("name", "a")), False)
        program = (("new", "a", "b"), ("new", "b", "a"))
        self.check(program, ["a", "b"], {("name", "a"): "b", ("name", "b"): "a"})

    def test_long_chains_of_boxes(self):
        for many in (20, 60):
            for turned in (False, True):
                told, holds = classes(ladder(many, turned))
                number = {node: at for at, nodes in enumerate(told) for node in nodes}
                self.assertEqual(len(told), len(nodes_of(ladder(many, turned))))
                for k in range(many):
                    self.assertEqual(holds[number[("box", f"c{k}")]], number[("box", "b")])
        rows = [("new", f"n{k}", f"b{k:03}") for k in range(31)] + [("move", f"n{k}", f"n{k + 1}") for k in range(30)]
        for program in (tuple(rows), tuple(reversed(rows))):
            self.assertEqual(classes(program)[0][0], boxed(*[f"b{k:03}" for k in range(31)]))
        rows = [("new", f"n{k}", f"b{k:03}") for k in range(30)]
        rows += [("put", f"n{k}", "s", f"n{k + 1}") for k in range(29)]
        for program in (tuple(rows), tuple(reversed(rows))):
            told, holds = classes(program)
            self.assertEqual(told[:30], [boxed(f"b{k:03}") for k in range(30)])
            self.assertEqual([holds.get(k) for k in range(30)], list(range(1, 30)) + [None])
            self.assertEqual(classes(program + (("new", "n0", "b029"),))[0][0], boxed("b000", "b029"))
            self.assertEqual(classes(program + (("new", "n0", "b001"),))[0][0], boxed(*[f"b{k:03}" for k in range(30)]))

    def test_long_ways(self):
        for many in (59, 199):
            for turned in (False, True):
                program = moves(many, turned)
                self.check(program, ["b"], {("name", name): "b" for name in names_of(program)})

    def test_against_pairs(self):
        programs = every_program(2) + some_programs(100, 5) + some_programs(60, 9, "wxyz", "bcd", "s")
        for program in programs:
            alike, holds = alike_by(program)
            told, held = classes(program)
            number = {node: at for at, nodes in enumerate(told) for node in nodes}
            nodes = nodes_of(program)
            self.assertEqual(sorted(number), sorted(nodes))
            for one, other in itertools.product(nodes, repeat=2):
                self.assertEqual(number[one] == number[other], (one, other) in alike, (program, one, other))
                self.assertEqual(held.get(number[one]) == number[other], (one, other) in holds, (program, one, other))

    def test_how_classes_are_told(self):
        for program in some_programs(80, 9, "wxyz", "bcd", "s"):
            told, holds = classes(program)
            self.assertIs(type(told), list)
            self.assertEqual(sorted(node for nodes in told for node in nodes), sorted(nodes_of(program)))
            self.assertEqual([nodes[0] for nodes in told], sorted(nodes[0] for nodes in told))
            for nodes in told:
                self.assertIs(type(nodes), list)
                self.assertEqual(nodes, sorted(nodes))
            for number, held in holds.items():
                self.assertTrue(type(number) is int and type(held) is int)
                self.assertTrue(0 <= number < len(told) and 0 <= held < len(told))

    def test_rows_twice_and_in_another_order(self):
        for program in some_programs(40, 5):
            told = classes(program)
            self.assertEqual(classes(program + program), told)
            for order in itertools.permutations(program):
                self.assertEqual(classes(order), told)

    def test_other_words(self):
        other = {"x": "n", "y": "m", "z": "a", "b": "k", "c": "j", "s": "p", "t": "q"}
        for program in some_programs(60, 7):
            told, holds = classes(program)
            names = [sorted([(kind, other[word]) for kind, word in nodes]) for nodes in told]
            numbers = {at: sorted(names).index(nodes) for at, nodes in enumerate(names)}
            renamed = tuple([row[:1] + tuple([other[word] for word in row[1:]]) for row in program])
            self.assertEqual(
                classes(renamed), (sorted(names), {numbers[at]: numbers[held] for at, held in holds.items()})
            )


class Alike(unittest.TestCase):
    def test_ordinary_nodes(self):
        program = (("new", "x", "b"), ("new", "x", "c"), ("new", "y", "d"))
        self.assertIs(are_alike(program, ("box", "b"), ("box", "c")), True)
        self.assertIs(are_alike(program, ("box", "c"), ("box", "b")), True)
        self.assertIs(are_alike(program, ("box", "b"), ("box", "d")), False)
        self.assertIs(are_alike(program, ("name", "x"), ("name", "y")), False)
        self.assertIs(are_alike(program, ("name", "x"), ("box", "b")), False)

    def test_each_node_is_alike_itself(self):
        for program in some_programs(30, 6):
            for node in nodes_of(program):
                self.assertIs(are_alike(program, node, node), True)

    def test_it_is_as_the_classes_are(self):
        for program in some_programs(60, 7) + [HANDED_ON, ONE_WORD]:
            told, _ = classes(program)
            for one, other in itertools.product(nodes_of(program), repeat=2):
                self.assertIs(are_alike(program, one, other), any(one in nodes and other in nodes for nodes in told))


class BoxesAlike(unittest.TestCase):
    def test_ordinary_names(self):
        program = (("new", "x", "c"), ("new", "x", "b"), ("move", "y", "x"), ("new", "z", "a"), ("move", "v", "w"))
        for name, boxes in (("x", ["b", "c"]), ("y", ["b", "c"]), ("z", ["a"]), ("v", []), ("w", [])):
            self.assertEqual(boxes_alike(program, name), boxes)

    def test_more_than_the_least_table_lists(self):
        program = (("new", "x", "b"), ("move", "y", "x"), ("new", "y", "c"))
        self.assertEqual(least(program)[("name", "x")], ["b"])
        self.assertEqual(boxes_alike(program, "x"), ["b", "c"])

    def test_what_slots_hand_on(self):
        for name in names_of(HANDED_ON):
            _, holds = alike_by(HANDED_ON)
            boxes = sorted(word for holder, (kind, word) in holds if holder == ("name", name) and kind == "box")
            self.assertEqual(boxes_alike(HANDED_ON, name), boxes)

    def test_it_is_as_the_classes_are(self):
        for program in some_programs(100, 8):
            told, holds = classes(program)
            for at, nodes in enumerate(told):
                held = told[holds[at]] if at in holds else []
                for kind, word in nodes:
                    if kind == "name":
                        self.assertEqual(boxes_alike(program, word), [box for sort, box in held if sort == "box"])

    def test_the_least_table_lies_within(self):
        for program in some_programs(150, 9) + some_programs(60, 14, "uvwxyz", "bcd", "st") + every_program(2):
            table = least(program)
            for name in names_of(program):
                boxes = boxes_alike(program, name)
                self.assertIs(type(boxes), list)
                self.assertEqual(boxes, sorted(set(boxes)))
                self.assertTrue(set(table[("name", name)]) <= set(boxes), (program, name))


class LeftAlone(unittest.TestCase):
    def test_what_was_told_may_be_changed(self):
        for program in (HANDED_ON, ONE_WORD, (("new", "x", "b"), ("new", "y", "c"))):
            first, kept = classes(program), classes(program)
            first[1][0] = 9
            for nodes in first[0]:
                nodes.append(("box", "zz"))
            self.assertEqual(sum([nodes.count(("box", "zz")) for nodes in first[0]]), len(first[0]))
            first[0].clear()
            self.assertEqual(classes(program), kept)
            name = names_of(program)[0]
            boxes = boxes_alike(program, name)
            boxes_alike(program, name).append("zz")
            self.assertEqual(boxes_alike(program, name), boxes)

    def test_two_empty_ones_are_two(self):
        told, holds = classes(())
        told.append([])
        holds[0] = 0
        self.assertEqual(classes(()), ([], {}))
        boxes_alike((("move", "x", "y"),), "x").append("b")
        self.assertEqual(boxes_alike((("move", "x", "y"),), "x"), [])
