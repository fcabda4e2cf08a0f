"""Promise 3: what holds over all modules together."""

import unittest

from tests.houses import FRONT, KINDS, MIXED, counted, goes_round, laid_by, names_in, shuffled, some_houses
from tests.oracles import HANDED_ON, drawing, holdings_of, is_closed_by, some_programs
from whoholds.asked import are_enough, asked
from whoholds.chains import is_chain, ranks, shown
from whoholds.folded import folded
from whoholds.kept import Kept
from whoholds.likeness import boxes_alike
from whoholds.programs import boxes_of, names_of
from whoholds.rooms import apart, listed, together
from whoholds.runs import run
from whoholds.tables import is_closed, least

# In each of three calls a box goes into a slot and comes out of it again.
SHELVES = (
    ("main", (), (
        ("new", "x", "b"), ("new", "y", "c"), ("call", "p", "shelf", ("x", "y")), ("call", "q", "shelf", ("y", "x")),
        ("call", "r", "shelf", ("y", "q")), ("put", "x", "t", "r"), ("take", "u", "t", "x"),
    ), "r"),
    ("shelf", ("h", "k"), (("put", "h", "s", "k"), ("call", "z", "off", ("h",)), ("move", "w", "z")), "w"),
    ("off", ("h",), (("take", "z", "s", "h"),), "z"),
)


def houses():
    """Houses that can be laid apart."""
    told = [FRONT, KINDS, MIXED, SHELVES, counted(4, 3)]
    for house in some_houses(120):
        told += [turned for turned in (house, shuffled(house)) if not goes_round(house)]
    return [house for house in told if len(laid_by(house)[0]) <= 200]


def laid_programs():
    """What houses are laid as, together and apart."""
    return [program for house in houses() for program in (together(house), apart(house))]


def runs_of(program):
    """Some lists of three hundred numbers of rows."""
    one_of, many = drawing(13), len(program)
    if many == 0:
        return [[]]
    told = [[(k * step) % many for k in range(300)] for step in (1, many - 1)]
    return told + [[one_of(range(many)) for _ in range(300)] for _ in range(2)]


def held_in(program, numbers):
    """The holdings that a run comes to by its end."""
    names, slots = run(program, numbers)
    told = [(("name", name), thing[0]) for name, thing in names.items()]
    return told + [(("slot", holder[0], slot), thing[0]) for (holder, slot), thing in slots.items()]


class Whole(unittest.TestCase):
    def test_houses_are_laid_in_which_something_is_held(self):
        programs = laid_programs()
        self.assertGreater(len(programs), 100)
        self.assertGreater(len([program for program in programs if any(least(program).values())]), 100)
        self.assertEqual(listed(SHELVES, "main", "u"), (["b", "c"], ["b"]))
        self.assertEqual(listed(SHELVES, "main", "p"), (["b", "c"], ["c"]))

    def test_runs_lie_within_the_least_table(self):
        for program in laid_programs() + some_programs(30, 20, "uvwxyz", "bcd"):
            table = least(program)
            for numbers in runs_of(program):
                for place, box in held_in(program, numbers):
                    self.assertIn(box, table[place], (program, numbers))

    def test_what_a_run_of_copies_holds_is_listed_together(self):
        for house in houses():
            program, copies = laid_by(house)
            table = least(together(house))
            rooms = {copied: called for called, copied in copies}
            for numbers in runs_of(program)[:2]:
                for place, box in held_in(program, numbers):
                    if place[0] == "name":
                        copied, name = place[1].rsplit(".", 1)
                        place = ("name", rooms[copied] + "." + name)
                        self.assertIn(box, listed(house, rooms[copied], name)[1])
                    self.assertIn(box, table[place], (house, numbers))

    def test_each_holding_is_shown_by_a_chain_and_each_other_one_never(self):
        for house in houses()[:40]:
            for program in (together(house), apart(house), folded(together(house))[0]):
                table = least(program)
                self.assertIs(is_closed(program, table), True)
                held = holdings_of(table)
                self.assertEqual(sorted(ranks(program)), sorted(held))
                for holding in held[:30]:
                    word, chain = shown(program, holding)
                    self.assertEqual(word, "holds")
                    self.assertIs(is_chain(program, holding, chain), True)
                others = [(place, box) for place in table for box in boxes_of(program) if box not in table[place]]
                for place, box in others[:10]:
                    word, closed = shown(program, (place, box))
                    self.assertEqual(word, "never")
                    self.assertTrue(is_closed_by(program, closed))
                    self.assertNotIn(box, closed.get(place, []))

    def test_rows_told_are_enough_and_none_is_to_spare(self):
        for program in laid_programs()[:80]:
            table = least(program)
            for name in names_of(program)[:4]:
                boxes, rows = asked(program, name)
                self.assertEqual(boxes, table[("name", name)])
                few = tuple([program[number] for number in rows])
                self.assertEqual(least(few).get(("name", name), []), boxes)
                self.assertIs(are_enough(program, name, rows), True)
                for left in rows:
                    self.assertIs(are_enough(program, name, [k for k in rows if k != left]), False)
                for box in boxes:
                    chain = shown(few, (("name", name), box))[1]
                    self.assertEqual({number for _, number, _ in chain} - set(range(len(few))), set())

    def test_the_least_table_lies_within_likeness(self):
        for program in laid_programs()[:100]:
            table = least(program)
            for name in names_of(program):
                self.assertTrue(set(table[("name", name)]) <= set(boxes_alike(program, name)), (program, name))

    def test_rooms_laid_apart_hold_no_more(self):
        for house in houses():
            for room in house:
                for name in names_in(room):
                    one, other = listed(house, room[0], name)
                    self.assertTrue(set(other) <= set(one), (house, room[0], name))

    def test_kept_is_told_as_of_the_rows_that_stand(self):
        for program in (together(SHELVES), apart(SHELVES), together(FRONT), HANDED_ON):
            kept, held = Kept(), {}
            for row in program + program[:3]:
                for holding in kept.put_in(row):
                    self.assertNotIn(holding, held)
                    held[holding] = True
                self.assertEqual(sorted(held), sorted(holdings_of(least(kept.rows()))))
            for row in program[::2] + program[:3]:
                for holding in kept.take_out(row):
                    del held[holding]
                self.assertEqual(sorted(held), sorted(holdings_of(least(kept.rows()))))
                for name in names_of(program):
                    self.assertEqual(kept.lists(name), sorted([box for at, box in held if at == ("name", name)]))

    def test_folded_a_program_lists_the_same(self):
        for program in laid_programs():
            other, heads = folded(program)
            one, two = least(program), least(other)
            for place, boxes in one.items():
                own = ("name", heads[place[1]]) if place[0] == "name" else place
                self.assertEqual(two.get(own, []), boxes, (program, place))
