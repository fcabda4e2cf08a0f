"""Promises 8 and 9: chains, ranks, and what is shown of a holding."""

import copy
import itertools
import unittest

from tests.oracles import (
    HANDED_ON, ONE_WORD, by_rounds, following, holdings_of, is_closed_by, ladder, listed_by, moves, some_programs,
)
from tests.samples import no_words, plain_things, things_of_things
from whoholds.chains import is_chain, ranks, shown
from whoholds.tables import is_closed, least

SMALL = (("new", "x", "b"), ("new", "y", "c"), ("put", "x", "s", "y"), ("take", "z", "s", "x"), ("move", "w", "z"))
X, Y, Z, W = (("name", "x"), "b"), (("name", "y"), "c"), (("name", "z"), "c"), (("name", "w"), "c")
SLOT = (("slot", "b", "s"), "c")
CHAIN = [(X, 0, ()), (Y, 1, ()), (SLOT, 2, (0, 1)), (Z, 3, (0, 2)), (W, 4, (3,))]
STRANGE = plain_things() + things_of_things() + no_words()


def is_chain_by(program, holding, chain):
    """Whether a list of well made tuples is a chain that shows the holding, by all that follows."""
    for at, (held, number, of) in enumerate(chain):
        if any(not 0 <= ahead < at for ahead in of):
            return False
        ahead = [chain[other][0] for other in of]
        if (0, tuple(ahead), held) not in following((program[number],), ahead):
            return False
    return chain != [] and chain[-1][0] == holding


def long_chain(program):
    """A chain of all that follows."""
    chain = []
    come = [(held, number, of) for number, of, held in following(program, [])]
    while come:
        for held, number, of in come:
            known = [link[0] for link in chain]
            if held not in known:
                chain.append((held, number, tuple([known.index(ahead) for ahead in of])))
        known = [link[0] for link in chain]
        come = [(held, number, of) for number, of, held in following(program, known) if held not in known]
    return chain


def all_numbers(many):
    """Every tuple of none to two numbers below this one."""
    return [of for length in range(3) for of in itertools.product(range(many), repeat=length)]


class Chains(unittest.TestCase):
    def refuse(self, chain, holding=W, program=SMALL):
        self.assertIs(is_chain(program, holding, chain), False, chain)

    def test_an_ordinary_one(self):
        self.assertIs(is_chain(SMALL, W, CHAIN), True)
        for many in range(1, 6):
            for holding in (X, Y, SLOT, Z, W):
                self.assertIs(is_chain(SMALL, holding, CHAIN[:many]), holding == CHAIN[many - 1][0])

    def test_each_kind_of_row_alone(self):
        self.assertIs(is_chain((("new", "x", "b"),), X, [(X, 0, ())]), True)
        program = (("new", "x", "b"), ("move", "y", "x"), ("put", "x", "s", "x"), ("take", "y", "s", "x"))
        y, slot = (("name", "y"), "b"), (("slot", "b", "s"), "b")
        self.assertIs(is_chain(program, y, [(X, 0, ()), (y, 1, (0,))]), True)
        self.assertIs(is_chain(program, slot, [(X, 0, ()), (slot, 2, (0, 0))]), True)
        self.assertIs(is_chain(program, y, [(X, 0, ()), (slot, 2, (0, 0)), (y, 3, (0, 1))]), True)
        self.assertIs(is_chain(program, slot, [(X, 0, ()), (X, 0, ()), (slot, 2, (1, 0))]), True)

    def test_holdings_twice_and_holdings_that_nothing_needs(self):
        self.assertIs(is_chain(SMALL, X, [(X, 0, ()), (X, 0, ())]), True)
        self.assertIs(is_chain(SMALL, X, [(Y, 1, ()), (X, 0, ())]), True)
        program = (("new", "x", "b"), ("move", "x", "x"), ("new", "x", "b"))
        self.assertIs(is_chain(program, X, [(X, 2, ()), (X, 1, (0,)), (X, 1, (1,))]), True)

    def test_a_tuple_left_out(self):
        for at in range(len(CHAIN)):
            self.refuse(CHAIN[:at] + CHAIN[at + 1:])

    def test_tuples_twice(self):
        told = [is_chain(SMALL, W, CHAIN[:at] + CHAIN[at:at + 1] + CHAIN[at:]) for at in range(len(CHAIN))]
        self.assertEqual(told, [False, False, False, True, True])
        for at in range(len(CHAIN)):
            chain = CHAIN[:at] + CHAIN[at:at + 1] + CHAIN[at:]
            self.assertEqual(is_chain_by(SMALL, W, chain), told[at])

    def test_tuples_exchanged(self):
        for order in itertools.permutations(range(len(CHAIN))):
            chain = [CHAIN[at] for at in order]
            self.assertIs(is_chain(SMALL, W, chain), list(order) == [0, 1, 2, 3, 4], order)

    def test_another_holding_shown(self):
        places = [("name", name) for name in "xyzwv"] + [("slot", box, "s") for box in "bc"]
        for place in places:
            for box in "bcd":
                self.assertIs(is_chain(SMALL, (place, box), CHAIN), (place, box) == W)

    def test_another_holding_in_a_tuple(self):
        places = [("name", name) for name in "xyzwv"] + [("slot", box, slot) for box in "bc" for slot in "st"]
        for at, (held, number, of) in enumerate(CHAIN):
            for place in places:
                for box in "bcd":
                    chain = CHAIN[:at] + [((place, box), number, of)] + CHAIN[at + 1:]
                    self.assertIs(is_chain(SMALL, W, chain), (place, box) == held, chain)
                    self.assertIs(is_chain(SMALL, (place, box), chain[:at + 1]), (place, box) == held, chain)

    def test_another_row(self):
        for at, (held, number, of) in enumerate(CHAIN):
            for other in (-6, -5, -4, -3, -2, -1, 0, 1, 2, 3, 4, 5, 6, 10 ** 59, -10 ** 59):
                chain = CHAIN[:at] + [(held, other, of)] + CHAIN[at + 1:]
                self.assertIs(is_chain(SMALL, W, chain), other == number, chain)

    def test_other_numbers_ahead(self):
        numbers = (-5, -2, -1, 0, 1, 2, 3, 4, 5, 10 ** 59, -10 ** 59)
        choices = [of for many in range(4) for of in itertools.product(numbers, repeat=many)]
        for at, (held, number, of) in enumerate(CHAIN):
            for other in choices:
                chain = CHAIN[:at] + [(held, number, other)] + CHAIN[at + 1:]
                self.assertIs(is_chain(SMALL, W, chain), other == of, chain)

    def test_numbers_ahead_turned_about(self):
        self.refuse(CHAIN[:2] + [(SLOT, 2, (1, 0))], SLOT)
        self.refuse(CHAIN[:3] + [(Z, 3, (2, 0))], Z)
        # Turned about it is another holding that follows, where both names hold both boxes.
        program = (("new", "x", "b"), ("new", "x", "c"), ("put", "x", "s", "x"))
        other = (("name", "x"), "c")
        for of in ((0, 1), (1, 0), (0, 0), (1, 1)):
            held = (("slot", "bc"[of[0]], "s"), "bc"[of[1]])
            chain = [(X, 0, ()), (other, 1, ()), (held, 2, of)]
            self.assertIs(is_chain(program, held, chain), True)
            for box in "bc":
                wrong = (("slot", "bc"[1 - of[0]], "s"), box)
                self.refuse(chain[:2] + [(wrong, 2, of)], wrong, program)

    def test_of_itself_and_of_those_behind(self):
        program = (("move", "x", "y"), ("move", "y", "x"), ("move", "x", "x"), ("new", "z", "b"))
        y = (("name", "y"), "b")
        self.refuse([(X, 2, (0,))], X, program)
        self.refuse([(X, 0, (1,)), (y, 1, (0,))], y, program)
        self.refuse([(X, 2, (-1,))], X, program)
        self.refuse([(X, 0, (1,)), (y, 1, (0,)), (X, 0, (1,))], X, program)

    def test_truths_and_other_things_for_numbers(self):
        program = (("new", "x", "b"), ("move", "y", "x"), ("put", "x", "s", "x"))
        y, slot = (("name", "y"), "b"), (("slot", "b", "s"), "b")
        self.refuse([(X, False, ())], X, program)
        self.refuse([(X, 0, ()), (y, True, (0,))], y, program)
        self.refuse([(X, 0, ()), (y, 1, (False,))], y, program)
        self.refuse([(X, 0, ()), (X, 0, ()), (y, 1, (True,))], y, program)
        self.refuse([(X, 0, ()), (slot, 2, (0, False))], slot, program)
        self.refuse([(X, 0, ()), (slot, 2, (False, 0))], slot, program)
        for thing in STRANGE:
            if thing not in ((), 0) or isinstance(thing, bool):
                self.refuse([(X, thing, ())], X, program)
                self.refuse([(X, 0, thing)], X, program)
                self.refuse([(X, 0, ()), (y, 1, (thing,))], y, program)
                self.refuse([(X, 0, ()), (slot, 2, (0, thing))], slot, program)

    def test_a_row_that_stands_twice(self):
        program = SMALL + SMALL
        for at, (held, number, of) in enumerate(CHAIN):
            chain = CHAIN[:at] + [(held, number + 5, of)] + CHAIN[at + 1:]
            self.assertIs(is_chain(program, W, chain), True)

    def test_lists_for_tuples(self):
        self.refuse(tuple(CHAIN))
        self.refuse({link: True for link in CHAIN})
        self.refuse({at: link for at, link in enumerate(CHAIN)})
        for at, (held, number, of) in enumerate(CHAIN):
            for link in (
                [held, number, of], (list(held), number, of), ((list(held[0]), held[1]), number, of),
                (held, number, list(of)), (held, [number], of), ([held], number, of), ((held,), number, of),
                {"holding": held}, (held, number), (held, of), (number, of), (held, number, of, ()), (held,), (),
                (held, of, number), (number, held, of), ((held[1], held[0]), number, of), (held + held, number, of),
                (held, number, of + (None,)), (held, number, None), (None, number, of), (held, None, of),
            ):
                self.refuse(CHAIN[:at] + [link] + CHAIN[at + 1:])
                self.refuse(CHAIN[:at] + [link], held)

    def test_none_follows_from_nothing(self):
        program = (("move", "y", "x"), ("new", "x", "b"))
        for link in ((None, 0, ()), (None, 1, (0,)), (None, 0, (0,))):
            self.refuse([link], X, program)
            self.refuse([link, (X, 1, ())], X, program)
            self.refuse([(X, 1, ()), link, (X, 1, ())], X, program)

    def test_anything_else(self):
        for thing in STRANGE + [X, W, (W,), [W], "new"]:
            self.refuse(thing)
            self.refuse([thing])
            self.refuse(CHAIN + [thing])
            self.refuse([thing] + CHAIN)
            for program in ((), (("new", "x", "b"),)):
                self.refuse(thing, X, program)
                self.refuse([thing, (X, 0, ())], X, program)
            for at, (held, number, of) in enumerate(CHAIN):
                if thing != held:
                    self.refuse(CHAIN[:at] + [(thing, number, of)] + CHAIN[at + 1:])
                for box in range(2):
                    if thing != held[box]:
                        other = held[:box] + (thing,) + held[box + 1:]
                        self.refuse(CHAIN[:at] + [(other, number, of)] + CHAIN[at + 1:])

    def test_of_no_rows(self):
        self.refuse([], X, ())
        self.refuse([(X, 0, ())], X, ())
        self.refuse([], X, (("new", "x", "b"),))

    def test_the_slot_and_the_box_are_those_of_the_row(self):
        slot = (("slot", "b", "t"), "c")
        self.refuse(CHAIN[:2] + [(slot, 2, (0, 1))], slot)
        program = (
            ("new", "x", "b"), ("put", "x", "s", "x"), ("put", "x", "t", "x"), ("take", "y", "s", "x"),
            ("new", "x", "c"), ("put", "x", "s", "x"),
        )
        ahead = [(X, 0, ()), ((("slot", "b", "t"), "b"), 2, (0, 0)), ((("name", "x"), "c"), 4, ())]
        ahead.append(((("slot", "c", "s"), "c"), 5, (2, 2)))
        self.assertIs(is_chain(program, ahead[-1][0], ahead), True)
        for box in "bc":
            y = (("name", "y"), box)
            for of in itertools.product(range(4), repeat=2):
                self.assertIs(is_chain(program, y, ahead + [(y, 3, of)]), of == (2, 3) and box == "c", of)

    def test_against_all_that_follows(self):
        for program in [ONE_WORD] + some_programs(12, 6, "ab", "a", "a") + some_programs(3, 5, "ab", "ab", "a"):
            known = long_chain(program)
            words = sorted({part for row in program for part in row[1:]})
            places = [("name", x) for x in words] + [("slot", b, s) for b in words for s in words]
            for number, of in itertools.product(range(len(program)), all_numbers(len(known))):
                told = [held for _, ahead, held in following((program[number],), [known[at][0] for at in of])
                        if ahead == tuple([known[at][0] for at in of])]
                for held in itertools.product(places, words):
                    self.assertIs(is_chain(program, held, known + [(held, number, of)]), held in told, (number, of))


class Ranks(unittest.TestCase):
    def test_of_no_rows_and_of_rows_from_which_nothing_follows(self):
        self.assertEqual(ranks(()), {})
        for row in (("move", "x", "y"), ("put", "x", "s", "y"), ("take", "x", "s", "y"), ("move", "x", "x")):
            self.assertEqual(ranks((row,)), {})

    def test_ordinary_ones(self):
        self.assertEqual(ranks(SMALL), {X: 1, Y: 1, SLOT: 2, Z: 3, W: 4})
        self.assertEqual(ranks(tuple(reversed(SMALL))), {X: 1, Y: 1, SLOT: 2, Z: 3, W: 4})
        self.assertEqual(ranks(ONE_WORD), {(("name", "a"), "a"): 1, (("slot", "a", "a"), "a"): 2})

    def test_the_greatest_of_those_that_it_follows_from(self):
        program = (("new", "x", "b"), ("move", "y", "x"), ("move", "z", "y"), ("put", "x", "s", "z"))
        self.assertEqual(ranks(program)[(("slot", "b", "s"), "b")], 4)
        program = (("new", "x", "b"), ("move", "y", "x"), ("move", "z", "y"), ("put", "z", "s", "x"))
        self.assertEqual(ranks(program)[(("slot", "b", "s"), "b")], 4)

    def test_the_least_of_the_ways(self):
        rows = [("new", "x", "b"), ("move", "y", "x"), ("move", "z", "y"), ("move", "w", "z"), ("move", "w", "x")]
        for order in itertools.permutations(rows):
            told = ranks(order)
            self.assertEqual([told[(("name", name), "b")] for name in "xyzw"], [1, 2, 3, 2])

    def test_long_ways(self):
        for many in (59, 199):
            for turned in (False, True):
                told = {(("name", f"n{k}"), "b"): k + 1 for k in range(many + 1)}
                self.assertEqual(ranks(moves(many, turned)), told)
        for turned in (False, True):
            told = ranks(ladder(19, turned))
            self.assertEqual([told[(("name", f"n{k}"), "b")] for k in range(20)], list(range(1, 41, 2)))

    def test_against_rounds(self):
        for program in some_programs(150, 7) + some_programs(60, 12, "uvwxyz", "bcd", "st"):
            self.assertEqual(ranks(program), by_rounds(program), program)

    def test_they_are_of_the_least_tables_holdings(self):
        for program in some_programs(60, 9):
            told = ranks(program)
            self.assertEqual(sorted(told), sorted(holdings_of(least(program))))
            self.assertTrue(all(type(rank) is int and rank > 0 for rank in told.values()))


class Shown(unittest.TestCase):
    def check(self, program, holding, held):
        told = shown(program, holding)
        self.assertIs(type(told), tuple)
        word, thing = told
        if held:
            self.assertEqual(word, "holds", (program, holding))
            self.assertIs(is_chain(program, holding, thing), True, thing)
            self.assertTrue(is_chain_by(program, holding, thing), thing)
            self.assertEqual(len({link[0] for link in thing}), len(thing))
        else:
            self.assertEqual(word, "never", (program, holding))
            self.assertIs(is_closed(program, thing), True, thing)
            self.assertTrue(is_closed_by(program, thing), thing)
            self.assertNotIn(holding[1], thing.get(holding[0], []))

    def test_ordinary_ones(self):
        for holding in (X, Y, SLOT, Z, W):
            self.check(SMALL, holding, True)
        for place in (("name", "w"), ("slot", "c", "s"), ("slot", "b", "s")):
            self.check(SMALL, (place, "b"), False)

    def test_of_every_place_and_box(self):
        programs = [HANDED_ON, ONE_WORD, (), HANDED_ON + HANDED_ON, tuple(reversed(HANDED_ON))]
        for program in programs + some_programs(60, 8):
            table = listed_by(program)
            for place in list(table) + [("name", "a"), ("slot", "a", "a"), ("slot", "b", "s"), ("name", "b")]:
                for box in "abcs":
                    self.check(program, (place, box), box in table.get(place, []))

    def test_words_that_the_program_does_not_use(self):
        for program in (SMALL, (), (("move", "x", "y"),)):
            for place in (
                ("name", "q"), ("name", "b"), ("name", "s"), ("name", "q" * 40), ("slot", "q", "s"),
                ("slot", "b", "q"), ("slot", "x", "s"), ("slot", "q", "q"), ("slot", "s", "b"), ("name", "name"),
            ):
                for box in ("b", "c", "q", "x", "s", "q.9"):
                    self.check(program, (place, box), False)
            for place in (("name", "x"), ("slot", "b", "s"), ("slot", "c", "s")):
                self.check(program, (place, "q"), False)
                self.check(program, (place, "x"), False)

    def test_long_ways(self):
        for turned in (False, True):
            for many in (59, 199):
                program = moves(many, turned)
                self.check(program, (("name", f"n{many}"), "b"), True)
                self.assertEqual(len(shown(program, (("name", f"n{many}"), "b"))[1]), many + 1)
                self.check(program, (("name", "n0"), "c"), False)
            self.check(ladder(60, turned), (("name", "n60"), "b"), True)
            self.check(ladder(60, turned), (("name", "n60"), "c59"), False)

    def test_what_another_holding_needs_too(self):
        rows = [("new", "n0", "b")]
        for k in range(25):
            rows += [("put", f"n{k}", f"s{k}", f"n{k}"), ("take", f"n{k + 1}", f"s{k}", f"n{k}")]
        for program in (tuple(rows), tuple(reversed(rows))):
            self.check(program, (("name", "n25"), "b"), True)
            self.check(program, (("slot", "b", "s24"), "b"), True)


class LeftAlone(unittest.TestCase):
    def test_nothing_handed_in_is_changed(self):
        for thing in STRANGE + [CHAIN, CHAIN[:2] + [[X, 0, ()]], [(X, 0, [])]]:
            handed = copy.deepcopy(thing)
            is_chain(SMALL, W, handed)
            self.assertEqual(repr(handed), repr(thing))

    def test_what_is_handed_in_is_not_kept(self):
        handed = list(CHAIN)
        self.assertIs(is_chain(SMALL, W, handed), True)
        handed.pop()
        self.assertIs(is_chain(SMALL, W, handed), False)

    def test_what_was_told_may_be_changed(self):
        first, kept = ranks(SMALL), ranks(SMALL)
        self.assertIs(type(first), dict)
        first[X] = 9
        first.pop(W)
        self.assertEqual(ranks(SMALL), kept)
        word, chain = shown(SMALL, W)
        self.assertIs(type(chain), list)
        chain.clear()
        self.assertIs(is_chain(SMALL, W, shown(SMALL, W)[1]), True)
        word, table = shown(SMALL, (("name", "x"), "c"))
        self.assertIs(type(table), dict)
        for boxes in table.values():
            boxes.append("zz")
        table.clear()
        self.assertIs(is_closed(SMALL, shown(SMALL, (("name", "x"), "c"))[1]), True)
        self.assertEqual(ranks(SMALL), kept)

    def test_two_empty_ones_are_two(self):
        ranks(())[X] = 1
        self.assertEqual(ranks(()), {})
        shown((), X)[1][("name", "x")] = ["b"]
        self.assertNotIn("b", shown((), X)[1].get(("name", "x"), []))
