"""[17]: flats, against all bits gone through one by one."""

import unittest
from itertools import combinations, product

from eithersums.errors import SumError, TooMany
from eithersums.flats import (all_flats, bits_in, bits_many, flat_of, halves, is_in, least_flat, lies_in, meet, reduced,
                              told_on)
from tests.helpers import (HUGE, all_bits, bits_at, chance, flats_up_to, is_plain_flat, lines_of, plain_holds,
                           plain_together, same, some_row, steady, sums_of)

FLATS = {many: flats_up_to(many, many) for many in range(4)}
INSIDE = {many: {flat: bits_at(many, flat) for flat in FLATS[many]} for many in FLATS}


def some_flats(seed, many, count):
    """Return flats of more unknowns, made without the package: a head, and any greater unknowns that are no heads."""
    source = chance(seed)
    found = []
    for _ in range(count):
        heads = [unknown for unknown in range(many) if source.random() < 0.5]
        free = [unknown for unknown in range(many) if unknown not in heads]
        rows = [(head,) + tuple([k for k in free if k > head and source.random() < 0.5]) for head in heads]
        found.append(tuple([(row, source.randrange(2)) for row in rows]))
    return found


def plain_worths(row, some):
    """Return the worths that a sum has at some bits, ascending."""
    return sorted(set([sum([bits[unknown] for unknown in row]) % 2 for bits in some]))


class TestFlatOf(unittest.TestCase):
    def check(self, many, lines):
        found = steady(self, flat_of, lines)
        inside = bits_at(many, lines)
        if not inside:
            self.assertIs(found, None, lines)
            return
        self.assertIsInstance(found, tuple)
        same(self, list(found), sorted(found), lines)
        self.assertTrue(is_plain_flat(found), lines)
        same(self, bits_at(many, found), inside, lines)
        if many in FLATS:
            self.assertIn(repr(found), [repr(flat) for flat in FLATS[many] if INSIDE[many][flat] == inside], lines)

    def test_all_small(self):
        for many, most in ((0, 0), (1, 4), (2, 4), (3, 2)):
            for size in range(most + 1):
                for lines in product(lines_of(many), repeat=size):
                    self.check(many, list(lines))
                    self.check(many, lines)

    def test_three_of_three(self):
        for lines in combinations(lines_of(3), 3):
            self.check(3, lines[::-1])

    def test_more_lines(self):
        source = chance(31)
        for many in (4, 5, 6):
            for _ in range(60):
                lines = [(some_row(source, many), source.randrange(2)) for _ in range(source.randrange(1, 7))]
                self.check(many, lines)
                self.check(many, tuple(lines) + (lines[0],))

    def test_twelve_unknowns(self):
        source = chance(32)
        for count in (1, 3, 6, 9, 12, 14):
            lines = [(some_row(source, 12), source.randrange(2)) for _ in range(count)]
            self.check(12, lines)
        bits = (1, 0, 1, 1, 0, 0, 1, 0, 1, 1, 1, 0)
        rows = [some_row(source, 12) for _ in range(40)]
        lines = [(row, sum([bits[unknown] for unknown in row]) % 2) for row in rows]
        same(self, flat_of(lines), tuple([((unknown,), bit) for unknown, bit in enumerate(bits)]))
        same(self, flat_of(lines + [((11,), 1)]), None)

    def test_edges(self):
        same(self, [flat_of([]), flat_of(())], [(), ()])
        same(self, flat_of([((0,), 1), ((0,), 1)]), (((0,), 1),))
        same(self, flat_of([((0,), 1), ((0,), 0)]), None)
        same(self, flat_of([((0, 1), 1), ((1, 2), 1), ((0, 2), 1)]), None)
        same(self, flat_of([((0, 1), 1), ((1, 2), 1), ((0, 2), 0)]), (((0, 2), 0), ((1, 2), 1)))
        same(self, flat_of([((1,), 0), ((0, 1), 1)]), (((0,), 1), ((1,), 0)))

    def test_equal_bits_equal_flats(self):
        by_bits = {}
        for size in range(4):
            for lines in combinations(lines_of(3), size):
                by_bits.setdefault(tuple(bits_at(3, lines)), set()).add(repr(flat_of(lines)))
        same(self, [found for found in by_bits.values() if len(found) != 1], [])
        same(self, len(by_bits), len(FLATS[3]) + 1)


class TestPairs(unittest.TestCase):
    def test_is_in(self):
        for many in FLATS:
            for flat in FLATS[many]:
                for bits in all_bits(many):
                    same(self, steady(self, is_in, flat, bits), bits in INSIDE[many][flat], (flat, bits))

    def test_lies_in_and_meet(self):
        for many in FLATS:
            by_bits = {tuple(inside): flat for flat, inside in INSIDE[many].items()}
            for one, other in product(FLATS[many], repeat=2):
                common = tuple([bits for bits in INSIDE[many][one] if bits in INSIDE[many][other]])
                same(self, steady(self, lies_in, one, other), list(common) == INSIDE[many][one], (one, other))
                same(self, steady(self, meet, one, other), by_bits.get(common), (one, other))

    def test_twelve_unknowns(self):
        flats = some_flats(33, 12, 12)
        for one, other in product(flats, repeat=2):
            common = bits_at(12, one + other)
            found = meet(one, other)
            if not common:
                self.assertIs(found, None)
                same(self, lies_in(one, other), False)
                continue
            same(self, bits_at(12, found), common)
            same(self, lies_in(one, other), common == bits_at(12, one))
            same(self, [lies_in(found, one), lies_in(found, other)], [True, True])

    def test_edges(self):
        flat = (((0,), 0),)
        same(self, [lies_in((), ()), lies_in(flat, ()), lies_in((), flat)], [True, True, False])
        same(self, [meet((), ()), meet(flat, ()), meet((), flat), meet(flat, (((0,), 1),))], [(), flat, flat, None])
        same(self, [is_in((), ()), is_in((), (1, 1)), is_in(flat, (1,))], [True, True, False])


class TestSums(unittest.TestCase):
    def check(self, many, flat, row):
        inside = bits_at(many, flat)
        worths = plain_worths(row, inside)
        wanted = worths[0] if len(worths) == 1 else None
        same(self, steady(self, told_on, flat, row), wanted, (flat, row))
        self.check_reduced(flat, row, wanted is not None)
        found = steady(self, halves, flat, row)
        if wanted is not None:
            self.assertIs(found, None, (flat, row))
            return
        self.assertIsInstance(found, tuple)
        same(self, len(found), 2)
        for bit in (0, 1):
            same(self, bits_at(many, found[bit]), [bits for bits in inside if plain_holds((row, bit), bits)], (flat, row))
            self.assertTrue(is_plain_flat(found[bit]), (flat, row))
            same(self, list(found[bit]), sorted(found[bit]))

    def check_reduced(self, flat, row, told):
        found = steady(self, reduced, flat, row)
        heads = [line[0][0] for line in flat]
        same(self, [unknown for unknown in found if unknown in heads], [], (flat, row))
        same(self, found, plain_together([row] + [line[0] for line in flat if line[0][0] in row]), (flat, row))
        same(self, found == (), told, (flat, row))

    def test_all_small(self):
        for many in FLATS:
            for flat in FLATS[many]:
                for row in sums_of(many):
                    self.check(many, flat, row)

    def test_more(self):
        for many, count in ((4, 40), (5, 40), (7, 20)):
            for flat in some_flats(34 + many, many, count):
                for row in sums_of(many)[::3]:
                    self.check(many, flat, row)

    def test_twelve_unknowns(self):
        source = chance(35)
        for flat in some_flats(36, 12, 8):
            for row in [some_row(source, 12) for _ in range(3)] + [(), tuple(range(12))]:
                self.check(12, flat, row)
            if flat:
                self.check(12, flat, plain_together([line[0] for line in flat]))

    def test_empty_sum(self):
        for flat in [(), (((0,), 1),), (((0, 1), 1), ((2,), 1))]:
            same(self, [reduced(flat, ()), told_on(flat, ()), halves(flat, ())], [(), 0, None])

    def test_whole(self):
        same(self, [reduced((), (0, 2)), told_on((), (0, 2)), halves((), (0, 2))],
             [(0, 2), None, ((((0, 2), 0),), (((0, 2), 1),))])


class TestBits(unittest.TestCase):
    def test_all_small(self):
        for many in FLATS:
            for flat in FLATS[many]:
                same(self, steady(self, bits_in, many, flat), INSIDE[many][flat], flat)
                same(self, steady(self, bits_many, many, flat), len(INSIDE[many][flat]), flat)

    def test_more_unknowns_than_in_the_flat(self):
        for flat in FLATS[2]:
            same(self, bits_in(4, flat), bits_at(4, flat))
            same(self, bits_many(4, flat), len(bits_at(4, flat)))

    def test_twelve_unknowns(self):
        for flat in some_flats(37, 12, 10) + [(), tuple([((unknown,), 1) for unknown in range(12)])]:
            same(self, steady(self, bits_in, 12, flat), bits_at(12, flat))
            same(self, steady(self, bits_many, 12, flat), len(bits_at(12, flat)))

    def test_edges(self):
        same(self, [bits_in(0, ()), bits_many(0, ()), bits_in(1, ()), bits_many(12, ())], [[()], 1, [(0,), (1,)], 4096])

    def test_list_is_new(self):
        bits_in(1, ()).clear()
        same(self, bits_in(1, ()), [(0,), (1,)])


class TestLeast(unittest.TestCase):
    def check(self, many, some):
        fit = [flat for flat in FLATS[many] if not [bits for bits in some if bits not in INSIDE[many][flat]]]
        least = min(fit, key=lambda flat: len(INSIDE[many][flat]))
        same(self, steady(self, least_flat, some), least, some)

    def test_all_small(self):
        for many in FLATS:
            for size in range(1, 2 ** many + 1):
                for some in combinations(all_bits(many), size):
                    self.check(many, list(some))
                    self.check(many, some[::-1])

    def test_equal_bits(self):
        for some in product(all_bits(2), repeat=3):
            self.check(2, list(some))

    def test_edges(self):
        same(self, [least_flat([()]), least_flat(((), ())), least_flat([(1, 0)])], [(), (), (((0,), 1), ((1,), 0))])
        same(self, least_flat([(0, 0), (1, 1), (0, 1)]), ())

    def test_twelve_unknowns(self):
        for flat in some_flats(38, 12, 6):
            same(self, least_flat(bits_at(12, flat)), flat)
            same(self, least_flat(bits_at(12, flat)[::-1]), flat)
        same(self, least_flat(all_bits(12)), ())


class TestAllFlats(unittest.TestCase):
    def test_small(self):
        for many in FLATS:
            same(self, steady(self, all_flats, many), sorted(FLATS[many]))

    def test_four(self):
        flats = steady(self, all_flats, 4)
        same(self, flats, sorted(flats))
        same(self, [flat for flat in flats if not is_plain_flat(flat)], [])
        same(self, len(set([tuple(bits_at(4, flat)) for flat in flats])), 307)
        same(self, len(flats), 307)

    def test_counts(self):
        same(self, [len(all_flats(many)) for many in range(5)], [1, 3, 11, 51, 307])

    def test_too_many(self):
        for many in (5, 6, 12, 13, HUGE):
            with self.assertRaises(TooMany) as caught:
                all_flats(many)
            same(self, caught.exception.most, 4)
            self.assertIsInstance(caught.exception, SumError)

    def test_list_is_new(self):
        all_flats(2).clear()
        same(self, len(all_flats(2)), 11)


if __name__ == "__main__":
    unittest.main()
