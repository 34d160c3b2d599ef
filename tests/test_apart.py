"""[27], and [8] as far as it is about the number of models: against all bits of small books."""

import unittest

from eithersums.apart import left_bits, left_in, meeting, models_apart, models_from
from eithersums.errors import NotApart
from tests.helpers import (all_bits, bits_at, chance, flats_up_to, great_book, not_apart_books, plain_holds,
                           plain_missed, plain_models, same, some_book, some_left_out, steady, whole_book)

EVER, NEVER = (((0,), 0), ((0,), 1)), ()
ZERO, UNIT = (((0,), 0),), (((0,), 1),)
FLATS = {many: flats_up_to(many, many) for many in range(4)}


def plain_meeting(book):
    """Return the least two clauses that miss the same bits, by all bits."""
    missed = [set(plain_missed(book[0], clause)) for clause in book[1]]
    for one in range(len(missed)):
        for other in range(one + 1, len(missed)):
            if missed[one] & missed[other]:
                return (one, other)
    return None


def apart_books():
    """Return books that are apart, of few unknowns."""
    found = [(0, ()), (0, ((),)), (1, ()), (1, (NEVER,)), (1, (EVER,)), (1, (EVER, ZERO, EVER, UNIT)), (1, (EVER, NEVER))]
    found += [(3, ()), (2, (EVER, EVER)), (2, (ZERO,))]
    for seed in range(40):
        many = 1 + seed % 4
        found.append(some_left_out(seed, many, min(1 + seed // 2, 1 << many)))
    return found


def flats_of(seed, many):
    """Return flats of so many unknowns, all of them if there are few."""
    return FLATS[many] if many < 3 else chance(seed).sample(flats_up_to(many, 3), 12) + [()]


class TestMeeting(unittest.TestCase):
    def test_some_books(self):
        kinds = {True: 0, False: 0}
        for seed in range(150):
            book = some_book(seed, 1 + seed % 5, seed % 6, 4)
            wanted = plain_meeting(book)
            kinds[wanted is None] += 1
            same(self, steady(self, meeting, book), wanted, book)
        self.assertGreater(min(kinds.values()), 30)
        for book in apart_books():
            same(self, steady(self, meeting, book), None, book)

    def test_edges(self):
        same(self, [meeting((0, ())), meeting((0, ((),))), meeting((0, ((), ()))), meeting((0, ((), (), ())))],
             [None, None, (0, 1), (0, 1)])
        same(self, [meeting((1, (EVER, EVER))), meeting((1, (EVER, NEVER))), meeting((1, (NEVER, EVER, NEVER)))],
             [None, None, (0, 2)])
        same(self, [meeting((1, (ZERO, UNIT, UNIT, ZERO))), meeting((1, (ZERO, UNIT, ZERO, UNIT)))], [(0, 3), (0, 2)])
        same(self, meeting((2, (UNIT, EVER, ZERO, (((1,), 1),)))), (0, 3))


class TestApart(unittest.TestCase):
    def test_numbers(self):
        for book in apart_books():
            models = plain_models(book)
            same(self, steady(self, models_apart, book), len(models), book)
            for flat in flats_of(len(book[1]), book[0]):
                wanted = [bits for bits in models if all(plain_holds(line, bits) for line in flat)]
                same(self, steady(self, left_in, book, flat), len(wanted), (book, flat))

    def test_number_by_misses(self):
        """[8]: all bits less those in the misses, of which none are in two."""
        for book in apart_books():
            missed = sum([len(plain_missed(book[0], clause)) for clause in book[1]])
            same(self, models_apart(book), len(all_bits(book[0])) - missed)

    def test_left_bits(self):
        for book in apart_books():
            models = plain_models(book)
            same(self, steady(self, left_bits, book), models[0] if models else None, book)

    def test_models_from(self):
        for book in apart_books():
            models = plain_models(book)
            for flat in flats_of(len(book[1]), book[0]):
                wanted = [bits for bits in models if all(plain_holds(line, bits) for line in flat)]
                for most in (0, 1, 2, len(wanted), len(wanted) + 1, 40):
                    same(self, steady(self, models_from, book, flat, most), wanted[:most], (book, flat, most))

    def test_edges(self):
        same(self, [models_apart((0, ())), models_apart((0, ((),))), left_bits((0, ())), left_bits((0, ((),)))], [1, 0, (), None])
        same(self, [models_from((0, ()), (), 5), models_from((0, ()), (), 0), models_from((0, ((),)), (), 5)], [[()], [], []])
        same(self, [left_in((2, (ZERO,)), UNIT), left_in((2, (ZERO,)), ZERO), left_in((2, (EVER, NEVER)), ZERO)], [0, 2, 0])
        same(self, [models_apart((2, (EVER, EVER))), left_bits((2, (EVER, EVER)))], [4, (0, 0)])
        models_from((1, ()), (), 2).clear()
        same(self, models_from((1, ()), (), 2), [(0,), (1,)])


class TestErrors(unittest.TestCase):
    def test_not_apart(self):
        for book in not_apart_books():
            wanted = plain_meeting(book) if book[0] < 12 else meeting(book)
            for function, *args in ((models_apart,), (left_in, ()), (left_bits,), (models_from, (), 3), (models_from, (), 0)):
                with self.assertRaises(NotApart) as caught:
                    function(book, *args)
                same(self, (caught.exception.one, caught.exception.other), wanted, (book, function))

    def test_meeting_raises_nothing(self):
        same(self, [meeting((1, (NEVER,) * 3)), meeting(great_book(1)) is None], [(0, 1), False])


class TestBounds(unittest.TestCase):
    def test_twelve_unknowns(self):
        source = chance(131)
        for seed in range(4):
            many, clauses = whole_book(seed, 12, 24)
            for book in ((many, clauses), (many, clauses[:7] + (EVER,) + clauses[9:]), (many, clauses[:1] + (EVER,) * 23)):
                models = plain_models(book)
                same(self, [steady(self, meeting, book), steady(self, models_apart, book)], [None, len(models)])
                same(self, steady(self, left_bits, book), models[0] if models else None)
                same(self, steady(self, models_from, book, (), 40), models[:40])
                flat = tuple([((k,), source.randrange(2)) for k in (0, 5, 11)])
                left = [bits for bits in models if all(plain_holds(line, bits) for line in flat)]
                same(self, [steady(self, left_in, book, flat), models_from(book, flat, 40)], [len(left), left[:40]])

    def test_no_clauses(self):
        same(self, [models_apart((12, ())), left_in((12, ()), ZERO), left_bits((12, ()))], [4096, 2048, (0,) * 12])
        same(self, models_from((12, ()), UNIT, 40), bits_at(12, UNIT)[:40])


if __name__ == "__main__":
    unittest.main()
