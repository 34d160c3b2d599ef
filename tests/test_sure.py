"""[33], and [10]: against all bits of small books."""

import time
import unittest
from itertools import combinations, permutations

from eithersums.errors import NoModel
from eithersums.flats import is_in, least_flat
from eithersums.orders import flat_order, is_order
from eithersums.papers import refutes
from eithersums.settings import solution_of
from eithersums.sure import parting_models, spread_models, sure_along, sure_bit, sure_flat
from tests.helpers import (all_bits, all_settings, chance, crowded_book, flats_up_to, great_book, ordered_book, plain_holds,
                           plain_models, plain_rank, plain_together, same, small_books_without, some_book, some_left_out,
                           some_row, steady, sums_of, tight_books, whole_book)

ZERO, EVER, NEVER = (((0,), 0),), (((0,), 0), ((0,), 1)), ()
BOOK = (2, ((((0,), 0), ((0, 1), 1)), (((1,), 1),)))
OTHER = (2, ((((0,), 0), ((0, 1), 0)), (((1,), 1),)))


def worths(row, models):
    return sorted(set([sum(bits[unknown] for unknown in row) % 2 for bits in models]))


def plain_sure_flat(book, models):
    """Return the flat of all sums that have one worth in all models, by all flats with most lines first."""
    found = [flat for flat in flats_up_to(book[0], book[0]) if all(plain_holds(line, bits) for line in flat for bits in models)]
    return max(found, key=len)


def small_books():
    """Return books with models, of at most four unknowns."""
    found = [(0, ()), (1, ()), (1, (ZERO,)), (1, (EVER,)), (3, ()), (3, (EVER, ZERO)), BOOK, OTHER]
    found += [some_book(seed, 1 + seed % 4, seed % 5, 1 + seed % 3) for seed in range(60)]
    found += [some_left_out(seed, 1 + seed % 4, min(1 + seed // 2, 1 << (1 + seed % 4))) for seed in range(16)]
    return [book for book in found if plain_models(book)]


class TestSure(unittest.TestCase):
    def test_all_rows(self):
        kinds = {}
        for book in small_books():
            models = plain_models(book)
            flat = steady(self, sure_flat, book)
            kinds[len(flat), book[0]] = True
            if book[0] < 4:
                same(self, flat, plain_sure_flat(book, models), book)
            sure = [row for row in sums_of(book[0]) if len(worths(row, models)) == 1]
            self.assertEqual(len(sure), 1 << len(flat))
            for row in sums_of(book[0])[1:]:
                found = worths(row, models)
                bit, parting = steady(self, sure_bit, book, row), steady(self, parting_models, book, row)
                same(self, bit, found[0] if len(found) == 1 else None, (book, row))
                if len(found) == 1:
                    same(self, parting, None, (book, row))
                else:
                    same(self, [type(parting), len(parting), [one in models for one in parting]], [tuple, 2, [True] * 2])
                    same(self, [worths(row, [one]) for one in parting], [[0], [1]], (book, row))
        self.assertLessEqual({(0, 3), (1, 3), (2, 3), (3, 3)}, set(kinds))

    def test_spread_models(self):
        for book in small_books():
            models, flat = plain_models(book), sure_flat(book)
            found = steady(self, spread_models, book)
            same(self, [len(found), [one in models for one in found]], [book[0] - len(flat) + 1, [True] * len(found)], book)
            same(self, least_flat(found), flat, book)
            for some in combinations(found, len(found) - 1):
                self.assertTrue(not some or len(least_flat(some)) > len(flat))

    def test_edges(self):
        same(self, [sure_flat((0, ())), spread_models((0, ())), sure_flat((2, ())), sure_flat((1, (EVER,)))], [(), [()], (), ()])
        same(self, [sure_flat(BOOK), sure_flat(OTHER), sure_bit(OTHER, (1,)), sure_bit(OTHER, (0,)), sure_bit(OTHER, (0, 1))],
             [(((0,), 0), ((1,), 1)), (((1,), 1),), 1, None, None])
        same(self, [parting_models(BOOK, (0,)), parting_models((1, ()), (0,)), sorted(spread_models(OTHER))],
             [None, ((0,), (1,)), [(0, 1), (1, 1)]])
        spread_models(OTHER).clear()
        same(self, len(spread_models(OTHER)), 2)


class TestAlong(unittest.TestCase):
    def test_all_orders(self):
        """[10]: the clauses that add a sure sum are as many as sure_flat has lines, along whatever order."""
        kinds = {}
        for book in [book for book in tight_books() if flat_order(book) is not None]:
            models = plain_models(book)
            for order in [order for order in permutations(range(book[0])) if is_order(book, order)]:
                wanted = []
                for place, index in enumerate(order):
                    pairs = [(one, other) for one in book[1][index] for other in book[1][index]]
                    if all(worths(plain_together([one[0], other[0]]), models) == [one[1] ^ other[1]] for one, other in pairs):
                        wanted.append(place)
                found = steady(self, sure_along, book, order)
                same(self, [found, len(found)], [tuple(wanted), len(sure_flat(book))], (book, order))
                kinds[len(found) == book[0], len(found) == 0] = True
        self.assertEqual(len(kinds), 4)

    def test_models_are_solutions(self):
        """[10]: if all settings are full, the models are just the solutions of all settings."""
        for book in [book for book in tight_books() if flat_order(book) is not None]:
            found = set([solution_of(book, setting) for setting in all_settings(book)])
            self.assertEqual(found, set(plain_models(book)), book)

    def test_two_lines_with_one_row(self):
        same(self, [sure_along((1, (EVER,)), (0,)), sure_along((1, (ZERO,)), (0,)), sure_along((0, ()), ())], [(), (0,), ()])
        book = (2, (EVER + (((0, 1), 0),), (((1,), 0),)))
        same(self, [sure_along(book, (1, 0)), sure_flat(book)], [(0,), (((1,), 0),)])
        same(self, [sure_along(BOOK, (1, 0)), sure_along(OTHER, (1, 0))], [(0, 1), (0,)])


class TestErrors(unittest.TestCase):
    def test_no_model(self):
        for book in small_books_without() + [whole_book(1, 12, 24), crowded_book(2, 12, 24), (0, ((),)), (3, (NEVER, ZERO))]:
            for function, *args in ((sure_flat,), (sure_bit, (0,)), (parting_models, (0,)), (spread_models,), (sure_along, ())):
                with self.assertRaises(NoModel) as caught:
                    function(book, *args)
                self.assertTrue(refutes(book, caught.exception.paper), book)


class TestBounds(unittest.TestCase):
    def test_twelve_unknowns(self):
        begun = time.time()
        source = chance(9)
        narrow = (12, tuple([((tuple(range(k, 12)), 1),) for k in range(9)]) + ((((9,), 0), ((10, 11), 1)),) * 15)
        for book in (great_book(5), narrow, (12, ()), some_left_out(3, 12, 24), (12, (((tuple(range(12)), 1),),))):
            models = plain_models(book)
            flat = steady(self, sure_flat, book)
            found = steady(self, spread_models, book)
            same(self, [len(found), least_flat(found), set(found) <= set(models)], [13 - len(flat), flat, True])
            self.assertTrue(all(is_in(flat, bits) for bits in models))
            rows = [some_row(source, 12) for _ in range(10)] + [row for row, _ in flat]
            for row in rows:
                wanted = worths(row, models)
                parting = steady(self, parting_models, book, row)
                same(self, sure_bit(book, row), wanted[0] if len(wanted) == 1 else None)
                same(self, None if parting is None else [worths(row, [one])[0] for one in parting],
                     None if len(wanted) == 1 else [0, 1])
        self.assertLess(time.time() - begun, 60)

    def test_sure_along_of_twelve(self):
        begun = time.time()
        sizes = {}
        for seed in range(12):
            book = ordered_book(seed, 12, 1 + seed % 6)
            order = flat_order(book)
            found = steady(self, sure_along, book, order)
            flat = sure_flat(book)
            same(self, len(found), len(flat))
            rows = [book[1][order[place]][0][0] for place in found]
            self.assertEqual(plain_rank(rows), len(rows))
            sizes[len(found)] = True
        self.assertGreater(len(sizes), 4)
        self.assertLess(time.time() - begun, 30)


if __name__ == "__main__":
    unittest.main()
