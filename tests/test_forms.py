"""[12]: which values are integers, sums, rows, lines, clauses, books, bits, flats, lots, settings."""

import unittest
from itertools import product

from eithersums.errors import Broken, NotTight, Wrong
from eithersums.forms import (are_bits, is_book, is_clause, is_flat, is_integer, is_line, is_lot, is_row, is_setting,
                              is_sum)
from tests.helpers import (HUGE, all_bits, any_values, clauses_up_to, flats_up_to, great_book, lines_of, nested, steady,
                           sums_of)

ODD_PARTS = [-1, 0, 1, 2, 3, True, False, None, "0", (), (0,), [0], {}, HUGE]
WITH_MANY = (is_sum, is_row, is_line, is_clause, are_bits, is_flat)
A = ((0,), 1)
B = ((0, 1), 0)
C = ((1,), 0)


class TestForms(unittest.TestCase):
    def told(self, function, *args):
        """Return what a function tells, which must be a truth."""
        answer = steady(self, function, *args)
        self.assertIn(repr(answer), ("True", "False"))
        return answer

    def just(self, function, many, valid, candidates):
        """Check that of all candidates just the valid ones are told to be so; kinds count."""
        shown = set([repr(one) for one in valid])
        for thing in [*valid, *candidates]:
            self.assertIs(self.told(function, many, thing), repr(thing) in shown, (function.__name__, many, thing))

    def just_one(self, function, valid, candidates):
        """Check the same of a function of one argument."""
        shown = set([repr(one) for one in valid])
        for thing in [*valid, *candidates]:
            self.assertIs(self.told(function, thing), repr(thing) in shown, (function.__name__, thing))

    def test_any_values(self):
        """None of them is of any form but for those named here."""
        fine = {is_sum: ["()", "(0,)"], is_row: ["(0,)"], is_line: [], is_clause: ["()"], are_bits: ["(0, 0)"],
                is_flat: ["()"], is_lot: ["()", "(0,)"], is_setting: ["(0,)"]}
        for value in any_values():
            for function in WITH_MANY:
                self.assertIs(self.told(function, 2, value), repr(value) in fine[function], (function, repr(value)[:80]))
            for function in (is_lot, is_setting):
                answer = self.told(function, (1, ((A,),)), value)
                self.assertIs(answer, repr(value) in fine[function], (function, repr(value)[:80]))
            self.assertIs(self.told(is_book, value), repr(value) in ("(0, ())", "(1, ((((0,), 0),),))"), repr(value)[:80])

    def test_integers(self):
        whole = [0, 1, -1, 2, 7, HUGE, -HUGE, 10 ** 40 - 1]
        self.just_one(is_integer, whole, [True, False, None, "1", "", (1,), [1], {}, (), Wrong(1), NotTight()])

    def test_integers_of_any_values(self):
        for value in any_values():
            self.assertIs(self.told(is_integer, value), repr(value).lstrip("-").isdigit(), repr(value)[:80])

    def test_sums_and_rows(self):
        candidates = [parts for size in range(4) for parts in product(ODD_PARTS, repeat=size)]
        candidates += [list(parts) for parts in candidates if len(parts) < 3] + ODD_PARTS
        for many in (0, 1, 3):
            self.just(is_sum, many, sums_of(many), candidates)
            self.just(is_row, many, [row for row in sums_of(many) if row], candidates)

    def test_sums_named(self):
        self.assertIs(is_sum(0, ()), True)
        self.assertIs(is_row(3, ()), False)
        for thing in [(1, 0), (1, 1), (3,), (-1,), (0, 1, 3), (True,), (False,), [0], {0: 1}, "", (0, "1"), ((0,),)]:
            self.assertIs(is_sum(3, thing), False, thing)
            self.assertIs(is_row(3, thing), False, thing)

    def test_lines(self):
        rows = [*sums_of(3), (1, 0), (1, 1), (True,), [0], None, 0, "0", (3,), (-1,), HUGE, (0, False)]
        ends = [0, 1, 2, -1, True, False, None, "0", (), (0,), [1], HUGE]
        candidates = [(row, bit) for row in rows for bit in ends]
        candidates += [[row, bit] for row, bit in lines_of(3)] + [line + (0,) for line in lines_of(2)]
        candidates += [(row,) for row in rows] + [{row: bit} for row, bit in lines_of(2)] + ODD_PARTS
        for many in (0, 1, 2, 3):
            self.just(is_line, many, lines_of(many), candidates)

    def test_clauses(self):
        parts = [*lines_of(2), ((0,), True), ((), 0), [(0,), 0], ((0,), 2), ((2,), 0), None, ((1, 0), 1), "a", 0, (), []]
        candidates = [things for size in range(4) for things in product(parts, repeat=size)]
        candidates += [list(things) for things in candidates if len(things) < 2] + ODD_PARTS + [A]
        for many in (0, 1, 2):
            self.just(is_clause, many, clauses_up_to(many, 3), candidates)
            self.just(is_flat, many, flats_up_to(many, 3), candidates)

    def test_clauses_named(self):
        self.assertIs(is_clause(0, ()), True)
        self.assertIs(is_clause(2, (A, B)), True)
        self.assertIs(is_clause(1, (((0,), 0), ((0,), 1))), True)
        for thing in [(B, A), (A, A), [A, B], (A, [B]), (A, None), A, ((0,), 1), (((0,), 1), 0), (((0,), 1, 1),)]:
            self.assertIs(is_clause(2, thing), False, thing)

    def test_flats_of_three(self):
        self.just(is_flat, 3, flats_up_to(3, 3), clauses_up_to(3, 4))

    def test_flats_named(self):
        self.assertIs(is_flat(0, ()), True)
        self.assertIs(is_flat(3, (((0, 2), 0), ((1, 2), 1))), True)
        for thing in [(A, B), (B, C), (((0,), 0), ((0,), 1)), (C, A), [A, C], (((0, 1), 0), ((0, 2), 0)), (((3,), 0),)]:
            self.assertIs(is_flat(3, thing), False, thing)

    def test_bits(self):
        ends = [0, 1, 2, -1, True, False, None, "0", (0,)]
        candidates = [things for size in range(4) for things in product(ends, repeat=size)]
        candidates += [list(things) for things in candidates] + ODD_PARTS
        for many in range(4):
            self.just(are_bits, many, all_bits(many), candidates)

    def test_books(self):
        books = [(0, ()), (0, ((),)), (0, ((), ())), (3, ()), (1, ((A,), (A,), ())), (2, ((A, B), (C,))), (HUGE, ())]
        books += [(HUGE, ((((0, HUGE - 1), 0),),)), great_book(1)]
        wrong = [(-1, ()), (True, ()), (False, ()), ("1", ()), (None, ()), ((), ()), (1, []), [1, ()], (1,), (1, (), ())]
        wrong += [(1, (A,)), (1, A), (1, ([A],)), (1, ((C,),)), (0, ((A,),)), (2, ((B, A),)), (2, ((A, A),)), (), 1]
        wrong += [(2, (((((0,), True)),),)), (2, ((((0,), True),),)), (2, ((((False,), 1),),)), (2, ((A,), None))]
        wrong += [(2, "A"), (2, {}), (2, None), (2, 3), {2: ()}, None, Wrong(0), (HUGE, ((((HUGE,), 0),),)), (-HUGE, ())]
        self.just_one(is_book, books, wrong)

    def test_books_each_clause_is_asked(self):
        clauses = clauses_up_to(2, 2)
        parts = [*clauses[:6], [A], (B, A), (((0,), True),), None, (((2,), 0),)]
        for things in product(parts, repeat=2):
            self.assertIs(is_book((2, things)), set(map(repr, things)) <= set(map(repr, clauses)), things)

    def test_lots(self):
        parts = [-1, 0, 1, 2, True, None, "0", (0,)]
        candidates = [things for size in range(4) for things in product(parts, repeat=size)]
        candidates += [list(things) for things in candidates] + ODD_PARTS
        for count in range(3):
            self.just(is_lot, (5, ((A,),) * count), sums_of(count), candidates)

    def test_lots_of_clauses_not_of_unknowns(self):
        self.assertIs(is_lot((0, ((), (), ())), (0, 2)), True)
        self.assertIs(is_lot((9, ((),)), (1,)), False)

    def test_settings(self):
        parts = [-1, 0, 1, 2, True, False, None, "0", (0,)]
        candidates = [things for size in range(4) for things in product(parts, repeat=size)]
        candidates += [list(things) for things in candidates] + ODD_PARTS
        books = {(2, ()): [()], (2, ((A,),)): [(0,)], (2, ((A, B), (C,))): [(0, 0), (1, 0)], (2, ((),)): [],
                 (2, ((A,), ())): [], (2, ((A,), (A, B), (A,))): [(0, 0, 0), (0, 1, 0)]}
        for book, valid in books.items():
            self.just(is_setting, book, valid, candidates)

    def test_bounds_are_not_asked(self):
        self.assertIs(is_sum(6000, tuple(range(6000))), True)
        self.assertIs(is_sum(5999, tuple(range(6000))), False)
        self.assertIs(is_sum(HUGE + 1, (0, HUGE)), True)
        self.assertIs(is_sum(HUGE, (0, HUGE)), False)
        lines = tuple([((k,), 1) for k in range(1500)])
        self.assertIs(is_clause(1500, lines), True)
        self.assertIs(is_flat(1500, lines), True)
        self.assertIs(is_flat(1500, lines[:-1] + (((1498, 1499), 0),)), False)
        self.assertIs(is_book((1500, (lines, lines))), True)
        self.assertIs(are_bits(6000, (1,) * 6000), True)
        self.assertIs(is_lot((0, ((),) * 100), tuple(range(100))), True)
        self.assertIs(is_setting((1, ((A,),) * 100), (0,) * 100), True)

    def test_at_the_bounds(self):
        book = great_book(2)
        self.assertIs(self.told(is_book, book), True)
        self.assertIs(is_setting(book, (5,) * 24), True)
        self.assertIs(is_setting(book, (5,) * 23 + (6,)), False)
        self.assertIs(is_lot(book, tuple(range(24))), True)
        self.assertIs(is_lot(book, (24,)), False)

    def test_deep_values_within(self):
        """Anything may stand where a part is expected."""
        for deep in [nested(18, 0, kind) for kind in (list, tuple, dict)] + [Broken([], {}), {}, [[]], None]:
            for function in WITH_MANY:
                for thing in [(deep,), (0, deep), (A, deep), ((deep, 0),), ((A, B), deep), (((0, deep), 1),), (((0,), deep),)]:
                    self.assertIs(function(2, thing), False, (function, repr(thing)[:80]))
            for thing in [(deep, ()), (2, deep), (2, (deep,)), (2, ((deep,),)), (2, (((deep, 0),),)), (deep, deep)]:
                self.assertIs(is_book(thing), False, repr(thing)[:80])


if __name__ == "__main__":
    unittest.main()
