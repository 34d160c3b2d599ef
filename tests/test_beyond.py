"""[23]: ranks of lots and how far they go beyond, against all lots of small books."""

import unittest

from eithersums.beyond import beyond_of, greatest_beyond, lots_beyond, rank_of_lot
from eithersums.books import with_clause
from eithersums.errors import TooMany
from tests.helpers import (all_lots, chance, crowded_book, full_clause, great_book, plain_rank, same, some_book, some_row,
                           steady, whole_book)

EVER, NEVER = (((0,), 0), ((0,), 1)), ()
ZERO, UNIT, BOTH = (((0,), 0),), (((0,), 1),), (((0,), 1), ((1,), 1))


def rows_of(book, lot):
    return [row for index in lot for row, _ in book[1][index]]


def plain_beyond(book, lot):
    return len(lot) - plain_rank(rows_of(book, lot))


def small_books():
    """Return books of few unknowns, with clauses that miss nothing, clauses twice and clauses without lines."""
    found = [(0, ()), (0, ((),)), (0, ((), ())), (1, ()), (1, (EVER,)), (1, (EVER, NEVER)), (1, (ZERO, UNIT, ZERO, UNIT))]
    found += [(2, ()), (2, (NEVER, ZERO, UNIT)), (3, (ZERO, BOTH, EVER)), (2, (BOTH, BOTH, ZERO)), (2, (BOTH,) * 6)]
    for seed in range(70):
        many, clauses = some_book(seed, 1 + seed % 6, seed % 8, 1 + seed % 3)
        found.append((many, clauses + ((), (EVER,), clauses[:1], (NEVER,))[seed % 4]))
    return found


def tight_parts(seed):
    """Return a BOOK of twelve clauses: some with rows of the first unknowns alone, others with one of their own."""
    source = chance(seed)
    clauses = []
    for at in range(12):
        rows = [some_row(source, 3 + at // 3) for _ in range(1 + at % 3)]
        clauses.append(tuple(sorted(set([(row, source.randrange(2)) for row in rows]))))
    source.shuffle(clauses)
    return (12, tuple(clauses))


class TestBeyond(unittest.TestCase):
    def test_of_lots(self):
        for book in small_books():
            for lot in all_lots(len(book[1])):
                same(self, rank_of_lot(book, lot), plain_rank(rows_of(book, lot)), (book, lot))
                same(self, beyond_of(book, lot), plain_beyond(book, lot), (book, lot))

    def test_of_lots_steady(self):
        book = (3, (ZERO, BOTH, (((0, 1), 0), ((2,), 0)), NEVER))
        for lot, rank in (((), 0), ((0,), 1), ((1,), 2), ((2,), 2), ((3,), 0), ((0, 1), 2), ((0, 1, 2, 3), 3)):
            same(self, [steady(self, rank_of_lot, book, lot), steady(self, beyond_of, book, lot)], [rank, len(lot) - rank])

    def test_greatest(self):
        for book in small_books():
            numbers = {lot: plain_beyond(book, lot) for lot in all_lots(len(book[1]))}
            greatest = max(numbers.values())
            same(self, steady(self, greatest_beyond, book), greatest, book)
            same(self, steady(self, lots_beyond, book), sorted([lot for lot in numbers if numbers[lot] == greatest]), book)

    def test_edges(self):
        same(self, [greatest_beyond((0, ())), lots_beyond((0, ())), rank_of_lot((0, ()), ()), beyond_of((0, ()), ())],
             [0, [()], 0, 0])
        same(self, [greatest_beyond((0, ((),))), lots_beyond((0, ((), ()))), beyond_of((0, ((), ())), (0, 1))],
             [1, [(0, 1)], 2])
        same(self, [greatest_beyond((2, (BOTH,))), lots_beyond((2, (BOTH,))), beyond_of((2, (BOTH,)), (0,))], [0, [()], -1])
        same(self, [greatest_beyond((1, (EVER,))), lots_beyond((1, (EVER,)))], [0, [(), (0,)]])
        same(self, [greatest_beyond((1, (ZERO, ZERO))), lots_beyond((1, (ZERO, ZERO)))], [1, [(0, 1)]])

    def test_lots_with_clauses_in_two_or_in_both(self):
        for book in small_books():
            lots = lots_beyond(book)
            for one in lots:
                for other in lots:
                    self.assertIn(tuple(sorted(set(one) | set(other))), lots)
                    self.assertIn(tuple(sorted(set(one) & set(other))), lots)

    def test_list_is_new(self):
        lots_beyond((1, (ZERO, UNIT))).clear()
        same(self, lots_beyond((1, (ZERO, UNIT))), [(0, 1)])

    def test_exchanges_in_long_chains(self):
        # Each clause but the last one can have the row of the one ahead; the first unknown is wanted by two.
        for many in range(1, 12):
            chain = tuple([(((k,), 0), ((k + 1,), 0)) for k in range(many)])
            same(self, greatest_beyond((many + 1, chain + (ZERO,))), 0)
            self.assertIn(tuple(range(many + 1)), lots_beyond((many + 1, chain + (ZERO,))))
            more = with_clause((many + 1, chain + (ZERO,)), (((many,), 1),))
            same(self, greatest_beyond(more), 1)
            if many < 11:
                same(self, lots_beyond(more), [tuple(range(many + 2))])


class TestErrors(unittest.TestCase):
    def test_too_many(self):
        for clauses in ((NEVER,) * 13, (ZERO,) * 13, (EVER,) * 24, (BOTH,) * 14):
            with self.assertRaises(TooMany) as caught:
                lots_beyond((2, clauses))
            same(self, caught.exception.most, 12)
            self.assertGreater(greatest_beyond((2, clauses)), 0)

    def test_just_at_the_bound(self):
        same(self, lots_beyond((1, (NEVER,) * 12)), [tuple(range(12))])
        same(self, len(lots_beyond((12, tuple([(((k,), 0),) for k in range(12)])))), 1 << 12)
        same(self, lots_beyond((12, (ZERO,) * 12)), [tuple(range(12))])


class TestBounds(unittest.TestCase):
    def test_great_books(self):
        for seed in range(3):
            for book in (great_book(seed), whole_book(seed, 12, 24), crowded_book(seed, 12, 24)):
                everything = tuple(range(24))
                rank = rank_of_lot(book, everything)
                found = steady(self, greatest_beyond, book)
                self.assertGreaterEqual(found, 24 - rank)
                same(self, steady(self, beyond_of, book, everything), 24 - rank)
                same(self, steady(self, rank_of_lot, book, everything[:3]), plain_rank(rows_of(book, everything[:3])))

    def test_all_lots_of_twelve_clauses(self):
        for seed in range(4):
            book = tight_parts(seed) if seed else (12, tuple([full_clause(chance(91), 12, 6) for _ in range(12)]))
            lots = steady(self, lots_beyond, book)
            greatest = greatest_beyond(book)
            same(self, sorted(set([beyond_of(book, lot) for lot in lots])), [greatest])
            others = [lot for lot in all_lots(12)[::7] if lot not in lots]
            same(self, [lot for lot in others if beyond_of(book, lot) >= greatest], [])


if __name__ == "__main__":
    unittest.main()
