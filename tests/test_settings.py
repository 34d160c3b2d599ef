"""[29], and what [9] says of full settings: against all settings and all lots of small tight books."""

import time
import unittest

from eithersums.settings import chosen_lines, is_full, solution_of, some_full
from tests.helpers import (all_lots, all_settings, bits_at, chance, demands_full, demands_tight, full_clause, is_plain_full,
                           is_strict_lot, ordered_book, plain_holds, plain_rank, same, steady, tight_books)

ZERO, EVER = (((0,), 0),), (((0,), 0), ((0,), 1))
TOLD = (2, ((((0,), 0), ((0, 1), 1)), (((1,), 0),)))


def rows_of(book, lot):
    return [row for index in lot for row, _ in book[1][index]]


class TestSettings(unittest.TestCase):
    def test_all_settings(self):
        kinds = {True: 0, False: 0}
        for book in tight_books():
            for setting in all_settings(book)[:200]:
                lines = tuple([book[1][k][line] for k, line in enumerate(setting)])
                same(self, steady(self, chosen_lines, book, setting), lines, (book, setting))
                wanted = is_plain_full(book, setting)
                kinds[wanted] += 1
                same(self, steady(self, is_full, book, setting), wanted, (book, setting))
                if wanted:
                    same(self, [steady(self, solution_of, book, setting)], bits_at(book[0], lines), (book, setting))
        self.assertGreater(min(kinds.values()), 100)

    def test_edges(self):
        same(self, [chosen_lines((0, ()), ()), is_full((0, ()), ()), solution_of((0, ()), ())], [(), True, ()])
        same(self, [solution_of((1, (EVER,)), (0,)), solution_of((1, (EVER,)), (1,)), is_full((2, (EVER, EVER)), (0, 1))],
             [(0,), (1,), False])
        same(self, [chosen_lines(TOLD, (1, 0)), solution_of(TOLD, (1, 0))], [(((0, 1), 1), ((1,), 0)), (1, 0)])

    def test_some_full(self):
        kinds = {}
        for book in tight_books():
            kind, found = steady(self, some_full, book)
            kinds[kind] = kinds.get(kind, 0) + 1
            few = [lot for lot in all_lots(len(book[1])) if plain_rank(rows_of(book, lot)) < len(lot)]
            full = [setting for setting in all_settings(book) if is_plain_full(book, setting)]
            same(self, [kind, bool(few), bool(full)], ["full", False, True] if full else ["few", True, False], book)
            self.assertIn(found, full or few)
            same(self, [type(found), set(map(type, found)) <= {int}], [tuple, True])
            self.assertTrue(kind == "full" or is_strict_lot(book, found))
        self.assertGreater(min(kinds.values()), 10)

    def test_some_full_edges(self):
        same(self, [some_full((0, ())), some_full((1, (ZERO,))), some_full((2, (ZERO, EVER)))],
             [("full", ()), ("full", (0,)), ("few", (0, 1))])


class TestErrors(unittest.TestCase):
    def test_not_tight(self):
        demands_tight(self, (chosen_lines, (0,)), (is_full, ()), (solution_of, (0, 0)), (solution_of, (7,)), (some_full,))

    def test_not_full(self):
        demands_full(self, (solution_of,))


class TestBounds(unittest.TestCase):
    def test_twelve_unknowns(self):
        begun = time.time()
        for seed in range(4):
            source = chance(seed)
            loose = (12, tuple([full_clause(source, 12, 6) for _ in range(12)]))
            # Of seven clauses all rows are of the first six unknowns.
            low = (12, tuple([full_clause(source, 12 if k < 5 else 6, 6) for k in range(12)]))
            for book in (loose, low, ordered_book(seed, 12, 6)):
                kind, found = steady(self, some_full, book)
                if book == low:
                    same(self, kind, "few")
                    self.assertLess(plain_rank(rows_of(book, found)), len(found))
                else:
                    same(self, [kind, is_full(book, found), is_plain_full(book, found)], ["full", True, True])
                    bits = steady(self, solution_of, book, found)
                    same(self, [len(bits), all(plain_holds(line, bits) for line in chosen_lines(book, found))], [12, True])
        self.assertLess(time.time() - begun, 30)


if __name__ == "__main__":
    unittest.main()
