"""[32], and what [9] says of the number of full settings: against all settings of small tight books."""

import time
import unittest

from eithersums.errors import NotTight, TooMany
from eithersums.odd import clause_sums, full_many, is_odd
from eithersums.settings import some_full
from tests.helpers import (all_settings, chance, demands_tight, full_clause, independent_rows, is_plain_full, ordered_book,
                           plain_rank, plain_together, same, steady, tight_book, tight_books)

ZERO, EVER = (((0,), 0),), (((0,), 0), ((0,), 1))
BOTH = (2, ((((0,), 0), ((0, 1), 0)), (((0, 1), 1), ((1,), 0))))


def book_by_counts(seed, counts):
    """Return a TIGHT BOOK with a clause of so many lines for each count."""
    source = chance(seed)
    return (len(counts), tuple([full_clause(source, len(counts), count) for count in counts]))


class TestOdd(unittest.TestCase):
    def test_all_settings(self):
        """[9]: the number of full settings is odd exactly if the clause sums are independent."""
        kinds = {}
        for book in tight_books():
            wanted = len([setting for setting in all_settings(book) if is_plain_full(book, setting)])
            sums = tuple([plain_together([row for row, _ in clause]) for clause in book[1]])
            same(self, steady(self, clause_sums, book), sums, book)
            same(self, [steady(self, full_many, book), steady(self, is_odd, book)], [wanted, wanted % 2 == 1], book)
            same(self, plain_rank(sums) == book[0], wanted % 2 == 1, book)
            kinds[wanted == 0, wanted % 2] = True
        self.assertEqual(sorted(kinds), [(False, 0), (False, 1), (True, 0)])

    def test_rows_that_stand_in_two_lines(self):
        same(self, [clause_sums((1, (EVER,))), is_odd((1, (EVER,))), full_many((1, (EVER,)))], [((),), False, 2])
        book = (2, (EVER + (((1,), 1),), (((0,), 1),)))
        same(self, [clause_sums(book), is_odd(book), full_many(book)], [((1,), (0,)), True, 1])

    def test_edges(self):
        same(self, [clause_sums((0, ())), is_odd((0, ())), full_many((0, ()))], [(), True, 1])
        same(self, [clause_sums(BOTH), is_odd(BOTH), full_many(BOTH), full_many((2, (ZERO, ZERO)))], [((1,), (0,)), True, 3, 0])

    def test_some_setting_is_full_if_it_is_odd(self):
        for seed in range(60):
            book = tight_book(seed, 2 + seed % 5, 3)
            if is_odd(book):
                same(self, [some_full(book)[0], full_many(book) % 2], ["full", 1])


class TestErrors(unittest.TestCase):
    def test_not_tight(self):
        demands_tight(self, (clause_sums,), (is_odd,), (full_many,))

    def test_not_tight_ahead_of_too_many(self):
        many, clauses = book_by_counts(1, [6] * 12)
        with self.assertRaises(NotTight):
            full_many((many, clauses[1:]))
        with self.assertRaises(NotTight):
            full_many((many, clauses[1:] + ((),)))

    def test_too_many(self):
        # Just 4096 settings, one more (17 * 241), and others beyond.
        for counts in ([2] * 12, [4] * 6, [4, 2, 1, 4, 4, 1, 2, 4, 4, 1, 1, 1], [16, 16, 16, 1, 1]):
            book = book_by_counts(len(counts), counts)
            same(self, full_many(book) <= 4096, True)
        eight = tuple([(row, bit) for row in independent_rows(chance(5), 8) for bit in (0, 1)] + [((0, 1, 2, 3), 1)])
        over = (8, (tuple(sorted(set(eight)))[:17], full_clause(chance(6), 8, 241), *[ZERO] * 6))
        self.assertEqual(len(over[1][0]) * len(over[1][1]), 4097)
        for book in (over, book_by_counts(2, [6] * 12), book_by_counts(3, [3] * 7 + [2] + [1] * 4)):
            with self.assertRaises(TooMany) as caught:
                full_many(book)
            same(self, caught.exception.most, 4096)
            same(self, [len(clause_sums(book)), is_odd(book) in (True, False)], [book[0], True])


class TestBounds(unittest.TestCase):
    def test_all_4096_settings(self):
        begun = time.time()
        for counts in ([2] * 12, [4] * 6 + [1] * 6, [6, 6, 6, 6, 3] + [1] * 7):
            book = book_by_counts(7, counts)
            found = steady(self, full_many, book)
            same(self, [0 <= found <= 4096, found % 2 == 1], [True, is_odd(book)])
        self.assertLess(time.time() - begun, 30)

    def test_twelve_unknowns(self):
        for seed in range(3):
            same(self, steady(self, is_odd, book_by_counts(seed, [6] * 12)) in (True, False), True)
        # All settings are full; some clauses have one line, so that there are not more than 4096.
        many, clauses = ordered_book(4, 12, 2)
        book = (many, tuple([clause[:1] if k < 2 else clause for k, clause in enumerate(clauses)]))
        same(self, full_many(book), len(all_settings(book)))


if __name__ == "__main__":
    unittest.main()
