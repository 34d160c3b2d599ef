"""[14]: books."""

import unittest
from itertools import permutations

from eithersums.books import (clauses_of, exchanged, exchanged_bits, holds, keeps, led_back, missed, models_of,
                              renumbered, with_clause, without_clause)
from eithersums.errors import SumError, TooMany
from tests.helpers import (HUGE, all_bits, clauses_up_to, great_book, lines_of, plain_holds, plain_keeps, plain_together,
                           same, some_book, steady)

A = ((0,), 1)
B = ((0, 1), 0)
C = ((1,), 0)


def plain_missed(book, bits):
    return [index for index in range(len(book[1])) if not plain_keeps(book[1][index], bits)]


def plain_models(book):
    return [bits for bits in all_bits(book[0]) if plain_missed(book, bits) == []]


def some_books():
    """Return books of all small sizes, without unknowns and without clauses too."""
    books = [(0, ()), (0, ((),)), (0, ((), ())), (3, ()), (2, ((),)), (2, ((A,), (), (A,)))]
    for many in range(1, 6):
        books += [some_book(10 * many + count, many, count, 3) for count in range(1, 8)]
    return books


class TestBits(unittest.TestCase):
    def test_holds(self):
        for line in lines_of(4):
            for bits in all_bits(4):
                same(self, steady(self, holds, line, bits), plain_holds(line, bits), (line, bits))

    def test_keeps(self):
        for clause in clauses_up_to(2, 6) + clauses_up_to(3, 2):
            many = 3 if len(clause) < 3 else 2
            for bits in all_bits(many):
                same(self, steady(self, keeps, clause, bits), plain_keeps(clause, bits), (clause, bits))

    def test_keeps_nothing(self):
        same(self, [keeps((), ()), keeps((), (0, 1))], [False, False])
        same(self, [keeps((((0,), 0), ((0,), 1)), (0,)), keeps((((0,), 0), ((0,), 1)), (1,))], [True, True])

    def test_missed(self):
        for book in some_books():
            for bits in all_bits(book[0]):
                same(self, steady(self, missed, book, bits), plain_missed(book, bits), (book, bits))

    def test_missed_at_the_bounds(self):
        book = great_book(3)
        for bits in all_bits(12)[::97]:
            same(self, steady(self, missed, book, bits), plain_missed(book, bits))

    def test_missed_is_new(self):
        book = (1, ((), (A,)))
        missed(book, (0,)).append(7)
        same(self, missed(book, (0,)), [0, 1])


class TestModels(unittest.TestCase):
    def test_small(self):
        for book in some_books():
            same(self, steady(self, models_of, book), plain_models(book), book)

    def test_edges(self):
        same(self, models_of((0, ())), [()])
        same(self, models_of((0, ((),))), [])
        same(self, models_of((2, ())), [(0, 0), (0, 1), (1, 0), (1, 1)])
        same(self, models_of((2, ((A,), ()))), [])
        same(self, models_of((1, ((((0,), 0), ((0,), 1)),))), [(0,), (1,)])

    def test_at_the_bounds(self):
        for seed in (4, 5):
            book = great_book(seed)
            same(self, models_of(book), plain_models(book))

    def test_twelve_and_more(self):
        same(self, steady(self, models_of, (12, ())), all_bits(12))
        for many in (13, 14, 40, HUGE):
            for clauses in ((), ((),), ((A,), (((12,), 0),))):
                with self.assertRaises(TooMany) as caught:
                    models_of((many, clauses))
                same(self, caught.exception.most, 12)
                self.assertIsInstance(caught.exception, SumError)

    def test_list_is_new(self):
        models_of((1, ())).clear()
        same(self, models_of((1, ())), [(0,), (1,)])


class TestClauses(unittest.TestCase):
    def test_clauses_of(self):
        book = (2, ((A,), (A, B), (), (A,)))
        same(self, steady(self, clauses_of, book, (0, 2)), (2, ((A,), ())))
        same(self, steady(self, clauses_of, book, (1, 3)), (2, ((A, B), (A,))))
        same(self, steady(self, clauses_of, book, ()), (2, ()))
        same(self, steady(self, clauses_of, book, (0, 1, 2, 3)), book)
        same(self, steady(self, clauses_of, (0, ()), ()), (0, ()))

    def test_with_clause(self):
        same(self, steady(self, with_clause, (2, ()), ()), (2, ((),)))
        same(self, steady(self, with_clause, (2, ((A,), (B,))), (A,)), (2, ((A,), (B,), (A,))))
        same(self, steady(self, with_clause, (2, ((B,),)), (A, B)), (2, ((B,), (A, B))))

    def test_without_clause(self):
        book = (2, ((A,), (A, B), (), (A,)))
        same(self, steady(self, without_clause, book, 0), (2, ((A, B), (), (A,))))
        same(self, steady(self, without_clause, book, 1), (2, ((A,), (), (A,))))
        same(self, steady(self, without_clause, book, 3), (2, ((A,), (A, B), ())))
        same(self, steady(self, without_clause, (0, ((),)), 0), (0, ()))

    def test_at_the_bounds(self):
        book = great_book(6)
        same(self, without_clause(with_clause(book, ()), 24), book)
        same(self, clauses_of(book, tuple(range(0, 24, 2))), (12, book[1][::2]))


class TestRenumbered(unittest.TestCase):
    def check(self, book, order):
        found = steady(self, renumbered, book, order)
        clauses = []
        for clause in book[1]:
            lines = [(tuple(sorted([order.index(old) for old in row])), bit) for row, bit in clause]
            clauses.append(tuple(sorted(lines)))
        same(self, found, (book[0], tuple(clauses)), (book, order))

    def test_small(self):
        for book in some_books():
            if book[0] < 5:
                for order in permutations(range(book[0])):
                    self.check(book, order)

    def test_in_order_anew(self):
        book = (3, ((((0,), 1), ((1, 2), 0), ((2,), 0)),))
        same(self, renumbered(book, (2, 0, 1)), (3, ((((0,), 0), ((0, 2), 0), ((1,), 1)),)))

    def test_bits_tell_the_same(self):
        for book in some_books():
            for order in list(permutations(range(book[0])))[::7]:
                for bits in all_bits(book[0]):
                    back = steady(self, led_back, order, bits)
                    same(self, missed(book, back), missed(renumbered(book, order), bits), (book, order, bits))
                    same(self, [back[old] for old in order], list(bits), (order, bits))

    def test_led_back(self):
        same(self, led_back((2, 0, 1), (0, 1, 1)), (1, 1, 0))
        same(self, led_back((1, 2, 0), (1, 0, 0)), (0, 1, 0))
        same(self, led_back((), ()), ())

    def test_at_the_bounds(self):
        self.check(great_book(7), (5, 11, 0, 3, 1, 10, 2, 4, 9, 6, 8, 7))


class TestExchanged(unittest.TestCase):
    def check(self, book, unknown, other):
        clauses = []
        for clause in book[1]:
            lines = [(plain_together([row, (other,)]) if unknown in row else row, bit) for row, bit in clause]
            clauses.append(tuple(sorted(lines)))
        same(self, steady(self, exchanged, book, unknown, other), (book[0], tuple(clauses)), (book, unknown, other))

    def test_small(self):
        for book in some_books():
            for unknown, other in permutations(range(book[0]), 2):
                self.check(book, unknown, other)
                same(self, exchanged(exchanged(book, unknown, other), unknown, other), book)

    def test_bits_keep_the_same(self):
        for book in some_books():
            for unknown, other in permutations(range(book[0]), 2):
                changed = exchanged(book, unknown, other)
                for bits in all_bits(book[0]):
                    there = steady(self, exchanged_bits, bits, unknown, other)
                    same(self, missed(changed, there), missed(book, bits), (book, unknown, other, bits))
                    same(self, exchanged_bits(there, unknown, other), bits)

    def test_exchanged_bits(self):
        same(self, exchanged_bits((0, 1), 0, 1), (1, 1))
        same(self, exchanged_bits((1, 1), 0, 1), (0, 1))
        same(self, exchanged_bits((1, 0, 0), 2, 0), (1, 0, 1))
        same(self, exchanged_bits((1, 0, 1), 1, 0), (1, 1, 1))
        same(self, exchanged_bits((1, 0, 1), 1, 2), (1, 1, 1))
        same(self, exchanged_bits((0, 1, 0), 1, 2), (0, 1, 0))

    def test_in_order_anew(self):
        same(self, exchanged((2, ((((0,), 0), ((0, 1), 0)),)), 0, 1), (2, ((((0,), 0), ((0, 1), 0)),)))
        same(self, exchanged((2, ((((0,), 0), ((0, 1), 1)),)), 0, 1), (2, ((((0,), 1), ((0, 1), 0)),)))
        same(self, exchanged((3, ((((0, 1), 0), ((0, 2), 1)),)), 0, 1), (3, ((((0,), 0), ((0, 1, 2), 1)),)))

    def test_at_the_bounds(self):
        self.check(great_book(8), 11, 0)
        self.check(great_book(8), 3, 7)


if __name__ == "__main__":
    unittest.main()
