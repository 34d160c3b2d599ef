"""[18], and [5] as far as it is about misses."""

import unittest
from itertools import product

from eithersums.misses import clause_for, follows_from, miss_of, misses_of, says_same
from tests.helpers import (all_bits, chance, clauses_up_to, flats_up_to, full_clause, great_book, is_plain_flat,
                           plain_keeps, same, some_book, some_clause, steady)


def missed_bits(many, clause):
    return [bits for bits in all_bits(many) if not plain_keeps(clause, bits)]


FLATS = {many: flats_up_to(many, many) for many in range(4)}
MISSED = {many: {tuple(missed_bits(many, clause)): clause for clause in clauses_up_to(many, 3)} for many in range(4)}


def flat_by_bits(many):
    """Return the flat for each tuple of bits that are those of one: its lines with other bits are missed there."""
    return {tuple(missed_bits(many, tuple([(row, 1 - bit) for row, bit in flat]))): flat for flat in FLATS[many]}


class TestMisses(unittest.TestCase):
    def test_miss_of(self):
        for many, most in ((0, 0), (1, 2), (2, 6), (3, 3)):
            flats = flat_by_bits(many)
            for clause in clauses_up_to(many, most):
                wanted = flats.get(tuple(missed_bits(many, clause)))
                same(self, steady(self, miss_of, clause), wanted, clause)

    def test_miss_of_edges(self):
        same(self, [miss_of(()), miss_of((((0,), 0), ((0,), 1)))], [(), None])
        same(self, miss_of((((0,), 0), ((0, 1), 0), ((1,), 0))), None)
        same(self, miss_of((((0,), 0), ((0, 1), 1), ((1,), 0))), (((0,), 1), ((1,), 1)))

    def test_miss_of_twelve(self):
        source = chance(41)
        for count in (1, 2, 3, 4, 5, 6, 6, 6):
            clause = full_clause(source, 12, count)
            wanted = missed_bits(12, clause)
            found = steady(self, miss_of, clause)
            if found is None:
                same(self, wanted, [])
                continue
            self.assertTrue(is_plain_flat(found) and list(found) == sorted(found))
            same(self, [bits for bits in all_bits(12) if not plain_keeps(clause_for(found), bits)], wanted)

    def test_clause_for(self):
        for many in range(4):
            for flat in FLATS[many]:
                found = steady(self, clause_for, flat)
                same(self, found, tuple([(row, 1 if bit == 0 else 0) for row, bit in flat]), flat)
                same(self, miss_of(found), flat)
        same(self, clause_for(()), ())

    def test_clause_for_has_fewest_lines(self):
        for many in range(4):
            for clause in clauses_up_to(many, 3):
                miss = miss_of(clause)
                if miss is not None:
                    self.assertLessEqual(len(clause_for(miss)), len(clause), clause)

    def test_misses_of(self):
        for seed in range(20):
            book = some_book(seed, 1 + seed % 5, seed % 8, 4)
            same(self, steady(self, misses_of, book), [miss_of(clause) for clause in book[1]])
        same(self, [misses_of((0, ())), misses_of((0, ((), ())))], [[], [(), ()]])
        book = (1, ((((0,), 0),), (((0,), 0), ((0,), 1)), (), (((0,), 1),), (((0,), 0),)))
        same(self, misses_of(book), [(((0,), 1),), None, (), (((0,), 0),), (((0,), 1),)])

    def test_misses_of_at_the_bounds(self):
        book = great_book(42)
        same(self, steady(self, misses_of, book), [miss_of(clause) for clause in book[1]])

    def test_misses_of_is_new(self):
        misses_of((1, ((),))).append(1)
        same(self, misses_of((1, ((),))), [()])


class TestFollowing(unittest.TestCase):
    def check(self, many, one, other):
        inner, outer = missed_bits(many, one), missed_bits(many, other)
        follows = not [bits for bits in inner if bits not in outer]
        same(self, steady(self, follows_from, one, other), follows, (one, other))
        same(self, steady(self, says_same, one, other), inner == outer, (one, other))

    def test_all_of_two(self):
        for one, other in product(clauses_up_to(2, 6), repeat=2):
            self.check(2, one, other)

    def test_none_and_one_unknown(self):
        for many in (0, 1):
            for one, other in product(clauses_up_to(many, 2), repeat=2):
                self.check(many, one, other)

    def test_some_of_three(self):
        clauses = list(MISSED[3].values())
        for one, other in product(clauses, repeat=2):
            self.check(3, one, other)

    def test_some_of_more(self):
        source = chance(43)
        for _ in range(200):
            one = some_clause(source, 5, 4)
            self.check(5, one, some_clause(source, 5, 4))
            self.check(5, tuple(sorted(set(one + some_clause(source, 5, 2)))), one)

    def test_edges(self):
        ever, never, one = (((0,), 0), ((0,), 1)), (), (((0,), 0),)
        same(self, [follows_from(ever, never), follows_from(never, ever), follows_from(ever, ever)], [True, False, True])
        same(self, [follows_from(one, never), follows_from(never, one), follows_from(one, ever)], [True, False, False])
        same(self, [follows_from(never, never), follows_from(ever, one)], [True, True])
        same(self, [says_same(ever, (((1,), 0), ((1,), 1))), says_same(ever, never), says_same(never, ())],
             [True, False, True])

    def test_by_misses(self):
        """[5]: a clause follows exactly if its miss is None or lies in that of the other."""
        for one, other in product(clauses_up_to(2, 3), repeat=2):
            inner, outer = miss_of(one), miss_of(other)
            same(self, says_same(one, other), inner == outer)
            if inner is None or outer is None:
                same(self, follows_from(one, other), inner is None)


if __name__ == "__main__":
    unittest.main()
