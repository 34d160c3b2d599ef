"""[19], and [5] as far as it is about two flats together."""

import unittest
from itertools import product

from eithersums.flats import halves, told_on
from eithersums.steps import cut_by, lies_in_both
from tests.helpers import bits_at, chance, flats_up_to, plain_holds, same, some_row, steady, sums_of

FLATS = {many: flats_up_to(many, many) for many in range(4)}
BITS = {many: {flat: set(bits_at(many, flat)) for flat in FLATS[many]} for many in range(4)}


def plain_cut(many, flat, one, other):
    """Return what cut_by should, by all bits and all rows."""
    bits, left, right = (BITS[many][part] for part in (flat, one, other))
    if bits <= left or bits <= right:
        return ()
    heads = [row[0] for row, _ in flat]
    found = []
    for row in sums_of(many):
        zero = set([some for some in bits if plain_holds((row, 0), some)])
        unit = bits - zero
        if zero and unit and not [head for head in heads if head in row]:
            if zero <= left and unit <= right or unit <= left and zero <= right:
                found.append(row)
    return found[0] if len(found) == 1 else found or None


class TestSteps(unittest.TestCase):
    def check(self, many, flat, one, other, how):
        wanted = plain_cut(many, flat, one, other)
        same(self, how(cut_by, flat, one, other), wanted, (flat, one, other))
        both = BITS[many][flat] <= BITS[many][one] | BITS[many][other]
        same(self, how(lies_in_both, flat, one, other), both, (flat, one, other))
        same(self, wanted is not None, both, "[5]")

    def test_all_of_two(self):
        for many in range(3):
            for flat, one, other in product(FLATS[many], repeat=3):
                self.check(many, flat, one, other, lambda *args: steady(self, *args))

    def test_of_three(self):
        for one, other in product(FLATS[3], repeat=2):
            self.check(3, (), one, other, lambda function, *args: function(*args))
        source = chance(51)
        for flat in FLATS[3]:
            near = [one for one in FLATS[3] if BITS[3][one] & BITS[3][flat]]
            for _ in range(40):
                self.check(3, flat, source.choice(near), source.choice(near), lambda function, *args: function(*args))

    def test_edges(self):
        zero, unit, off = (((0,), 0),), (((0,), 1),), (((1,), 1),)
        same(self, [cut_by((), (), ()), cut_by((), (), zero), cut_by((), zero, ()), cut_by(zero, (), ())], [(), (), (), ()])
        same(self, [cut_by((), zero, unit), cut_by((), unit, zero), cut_by((), zero, zero)], [(0,), (0,), None])
        same(self, [cut_by((), zero, off), cut_by(off, zero, unit), cut_by(zero, unit, off)], [None, (0,), None])
        same(self, [cut_by(zero, unit, zero), cut_by(zero, unit, unit), lies_in_both(zero, unit, unit)], [(), None, False])
        same(self, [lies_in_both((), (), ()), lies_in_both((), zero, unit), lies_in_both((), zero, off)],
             [True, True, False])

    def test_parts_that_meet_do_not_cut(self):
        # Three of four quarters, or a half and a quarter of the other one, are not all.
        half, quarter = (((0,), 0),), (((0,), 1), ((1,), 1))
        same(self, [cut_by((), half, quarter), cut_by((((1,), 1),), half, quarter)], [None, (0,)])
        same(self, [cut_by((((0, 1), 0),), (((1,), 0),), (((0,), 1), ((1,), 1)))], [(1,)])

    def test_row_is_without_heads(self):
        flat = (((0, 2), 1), ((1, 3), 0))
        one = (((0,), 0), ((1, 3), 0), ((2,), 1))
        other = (((0,), 1), ((1, 3), 0))
        same(self, steady(self, cut_by, flat, one, other), (2,))

    def test_of_twelve(self):
        source = chance(52)
        for _ in range(60):
            flat = ()
            while len(flat) < source.randrange(0, 11):
                flat = (halves(flat, some_row(source, 12)) or (flat,))[source.randrange(2) if len(flat) else 0]
            row = ()
            while row == () or told_on(flat, row) is not None:
                row = some_row(source, 12)
            zero, unit = halves(flat, row)
            one, other = source.choice([(zero, unit), (unit, zero)])
            found = steady(self, cut_by, flat, one, other)
            self.assertIn(halves(flat, found), [(zero, unit), (unit, zero)])
            self.assertFalse([1 for line in flat if line[0][0] in found])
            wider = [line for line in one if told_on(flat, line[0]) is None][:1]
            same(self, cut_by(flat, wider and tuple(wider), other), found)
            if len(unit) < 12:
                less = [half for row in [(k,) for k in range(12)] for half in halves(unit, row) or ()][0]
                same(self, [cut_by(flat, zero, less), lies_in_both(flat, less, zero)], [None, False])
            same(self, [cut_by(zero, flat, unit), cut_by(zero, unit, flat), cut_by(flat, zero, zero)], [(), (), None])


if __name__ == "__main__":
    unittest.main()
