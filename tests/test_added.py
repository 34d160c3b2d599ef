"""[34]: against all settings, all rows and all lots of lines of small tight books."""

import time
import unittest
from itertools import combinations

from eithersums.added import addable_rows, struck_lots
from eithersums.errors import Fails, NotTight, TooMany
from eithersums.orders import flat_order
from tests.helpers import (all_settings, chance, demands_tight, full_clause, is_plain_full, ordered_book, plain_together,
                           same, steady, sums_of, tight_book, tight_books)

ZERO, EVER = (((0,), 0),), (((0,), 0), ((0,), 1))
BOOK = (2, ((((0,), 0), ((0, 1), 1)), (((1,), 1),)))
STRUCK = (2, ((((0,), 0), ((0, 1), 0)), (((0, 1), 1), ((1,), 1))))


def all_full(book):
    return all(is_plain_full(book, setting) for setting in all_settings(book))


def with_line(book, index, line):
    """Return the book with a line put into a clause."""
    clause = tuple(sorted(set(book[1][index] + (line,))))
    return (book[0], book[1][:index] + (clause,) + book[1][index + 1:])


def plain_struck(book):
    """Return the least lots of lines to be left out, by all lots."""
    lines = [(clause, line) for clause in range(book[0]) for line in range(len(book[1][clause]))]
    found = []
    for size in range(len(lines) + 1):
        for lot in combinations(lines, size):
            rest = [[part for line, part in enumerate(clause) if (index, line) not in lot]
                    for index, clause in enumerate(book[1])]
            if not [1 for other in found if set(other) <= set(lot)] and all(rest) and all_full((book[0], tuple(rest))):
                found.append(lot)
    return sorted(found)


def lines_many(book):
    return sum([len(clause) for clause in book[1]])


class TestAddable(unittest.TestCase):
    def test_all_rows(self):
        sizes = {}
        for book in [book for book in tight_books() if all_full(book) and len(all_settings(book)) < 60]:
            for index in range(book[0]):
                for bit in (0, 1):
                    wanted = sorted([row for row in sums_of(book[0])[1:] if all_full(with_line(book, index, (row, bit)))])
                    found = steady(self, addable_rows, book, index)
                    same(self, found, wanted, (book, index))
                same(self, [row for row, _ in book[1][index] if row not in found], [])
                same(self, len(found) & (len(found) - 1), 0)
                sizes[len(found)] = True
        self.assertLessEqual({1, 2, 4, 8}, set(sizes))

    def test_edges(self):
        same(self, [addable_rows((1, (ZERO,)), 0), addable_rows((1, (EVER,)), 0), addable_rows(BOOK, 0), addable_rows(BOOK, 1)],
             [[(0,)], [(0,)], [(0,), (0, 1)], [(1,)]])
        addable_rows(BOOK, 0).clear()
        same(self, addable_rows(BOOK, 0), [(0,), (0, 1)])

    def test_fails(self):
        count = 0
        for book in [book for book in tight_books() if not all_full(book)]:
            for index in range(book[0]):
                with self.assertRaises(Fails) as caught:
                    addable_rows(book, index)
                self.assertIn(caught.exception.setting, all_settings(book))
                same(self, is_plain_full(book, caught.exception.setting), False)
                count += 1
        self.assertGreater(count, 30)


class TestStruck(unittest.TestCase):
    def test_all_lots_of_lines(self):
        kinds = {}
        for book in [book for book in tight_books() if lines_many(book) < 9]:
            found = steady(self, struck_lots, book)
            same(self, found, plain_struck(book), book)
            kinds[min(len(found), 3), found == [()]] = True
        self.assertLessEqual({(0, False), (1, False), (1, True), (2, False), (3, False)}, set(kinds))

    def test_edges(self):
        same(self, [struck_lots((0, ())), struck_lots((1, (EVER,)))], [[()], [()]])
        same(self, [struck_lots((2, (ZERO, ZERO))), struck_lots((2, (ZERO, EVER)))], [[], []])
        same(self, struck_lots(STRUCK), [((0, 1),), ((1, 0),)])
        # Ascending, whatever their lengths are.
        book = (3, ((((1,), 1),), (((0, 1), 1), ((2,), 0), ((2,), 1)), (((0, 1), 1), ((0, 2), 0), ((2,), 1))))
        same(self, struck_lots(book), [((1, 0), (2, 2)), ((1, 1), (1, 2), (2, 0)), ((2, 0), (2, 2))])
        struck_lots(STRUCK).clear()
        same(self, len(struck_lots(STRUCK)), 2)


class TestErrors(unittest.TestCase):
    def test_not_tight(self):
        demands_tight(self, (addable_rows, 0), (addable_rows, 7), (struck_lots,))

    def test_too_many_lines(self):
        twelve = (2, (full_clause(chance(1), 2, 6), full_clause(chance(2), 2, 6)))
        same(self, [lines_many(twelve), struck_lots(twelve)], [12, plain_struck(twelve)])
        for book in ((3, (*twelve[1], ZERO)), (12, tuple([full_clause(chance(k), 12, 6) for k in range(12)])),
                     (4, (*[full_clause(chance(k), 4, 3) for k in range(3)], full_clause(chance(3), 4, 4)))):
            self.assertGreater(lines_many(book), 12)
            with self.assertRaises(TooMany) as caught:
                struck_lots(book)
            same(self, caught.exception.most, 12)
        with self.assertRaises(NotTight):
            struck_lots((4, (*twelve[1], ZERO)))


class TestBounds(unittest.TestCase):
    def test_addable_of_twelve(self):
        begun = time.time()
        sizes = {}
        for seed in range(4):
            source = chance(seed)
            book = ordered_book(seed, 12, 6)
            for index in range(12):
                found = steady(self, addable_rows, book, index)
                sizes[len(found)] = True
                self.assertEqual(found, sorted(set(found)))
                same(self, [row for row, _ in book[1][index] if row not in found], [])
                for row in source.sample(found, min(2, len(found))):
                    self.assertIsNotNone(flat_order(with_line(book, index, (row, 1))))
                for unknown in range(12):
                    row = plain_together([found[0], (unknown,)])
                    if row:
                        same(self, flat_order(with_line(book, index, (row, 0))) is not None, row in found)
        self.assertGreater(len(sizes), 4)
        self.assertLess(time.time() - begun, 60)

    def test_twelve_lines(self):
        begun = time.time()
        for seed, counts in enumerate(([1] * 12, [2] * 6, [3] * 4, [4] * 3, [6] * 2, [2, 1] * 4)):
            source = chance(seed)
            book = (len(counts), tuple([full_clause(source, len(counts), count) for count in counts]))
            self.assertEqual(lines_many(book), 12)
            for lot in steady(self, struck_lots, book)[:50]:
                rest = [tuple([part for line, part in enumerate(clause) if (index, line) not in lot])
                        for index, clause in enumerate(book[1])]
                same(self, [min(map(len, rest)) > 0, all_full((book[0], tuple(rest)))], [True, True])
        for seed in range(6):
            book = tight_book(seed, 12, 1)
            same(self, struck_lots(book), [()] if all_full(book) else [])
        self.assertLess(time.time() - begun, 30)


if __name__ == "__main__":
    unittest.main()
