"""[13]: sums."""

import unittest
from itertools import combinations, product

from eithersums.sums import dependent_lot, independent_among, rank_of, sum_by, together, worth_of
from tests.helpers import HUGE, all_bits, chance, plain_together, same, some_row, steady, sums_of


def all_lots(count):
    return [lot for size in range(count + 1) for lot in combinations(range(count), size)]


def made_by(sums):
    """Return, for each sum that some of these are, one lot by which; and the lots that are ()."""
    table, zero = {}, []
    for lot in all_lots(len(sums)):
        row = plain_together([sums[index] for index in lot])
        table.setdefault(row, lot)
        if lot and row == ():
            zero.append(lot)
    return table, zero


def plain_rank(sums):
    """Return the rank by how many sums can be made, each as a number: 2 ** rank."""
    made = {0}
    for number in [sum([2 ** unknown for unknown in row]) for row in sums]:
        if number not in made:
            made = made | {one ^ number for one in made}
    return len(made).bit_length() - 1


class TestTogether(unittest.TestCase):
    def test_ordinary(self):
        same(self, together([(0, 1), (1, 2)]), (0, 2))
        same(self, together([(0, 1), (1, 2), (0, 2)]), ())
        same(self, together([(2,), (0,)]), (0, 2))
        same(self, together([(0, 3), (0, 3), (0, 3)]), (0, 3))

    def test_edges(self):
        same(self, together([]), ())
        same(self, together([()]), ())
        same(self, together([(), (), (4, 11)]), (4, 11))
        same(self, together([(5,), (5,)]), ())
        same(self, together([(HUGE,), (0, HUGE), (10,), (9,)]), (0, 9, 10))

    def test_all_small(self):
        for count in range(4):
            for sums in product(sums_of(3), repeat=count):
                same(self, steady(self, together, list(sums)), plain_together(sums), sums)

    def test_forty(self):
        source = chance(1)
        for _ in range(20):
            sums = [some_row(source, 12) for _ in range(40)]
            same(self, steady(self, together, sums), plain_together(sums))


class TestWorth(unittest.TestCase):
    def test_all_small(self):
        for many in range(5):
            for row in sums_of(many):
                for bits in all_bits(many):
                    count = [bits[unknown] for unknown in row].count(1)
                    same(self, steady(self, worth_of, row, bits), count % 2, (row, bits))

    def test_edges(self):
        same(self, worth_of((), ()), 0)
        same(self, worth_of((), (1, 1)), 0)
        same(self, worth_of(tuple(range(12)), (1,) * 12), 0)
        same(self, worth_of(tuple(range(11)), (1,) * 12), 1)


class TestRanks(unittest.TestCase):
    def check(self, sums):
        sums = list(sums)
        table, zero = made_by(sums)
        self.check_dependent(sums, bool(zero))
        same(self, steady(self, rank_of, sums), plain_rank(sums), sums)
        independent = [k for k in range(len(sums)) if sums[k] not in made_by(sums[:k])[0]]
        same(self, steady(self, independent_among, sums), independent, sums)
        for row in sums_of(3):
            self.check_made(sums, row, row in table)

    def check_dependent(self, sums, wanted):
        lot = steady(self, dependent_lot, sums)
        if not wanted:
            self.assertIs(lot, None, sums)
            return
        self.check_lot(sums, lot, ())
        self.assertGreater(len(lot), 0, sums)

    def check_made(self, sums, row, wanted):
        lot = steady(self, sum_by, sums, row)
        if not wanted:
            self.assertIs(lot, None, (sums, row))
            return
        self.check_lot(sums, lot, row)
        if row == ():
            same(self, lot, (), sums)

    def check_lot(self, sums, lot, row):
        same(self, lot, tuple(sorted(set(lot))), sums)
        self.assertTrue(all([index in range(len(sums)) for index in lot]), (sums, lot))
        same(self, plain_together([sums[index] for index in lot]), row, (sums, lot))

    def test_all_small(self):
        for count in range(4):
            for sums in product(sums_of(3), repeat=count):
                self.check(sums)

    def test_lists_of_four(self):
        source = chance(2)
        for _ in range(300):
            self.check([source.choice(sums_of(3)) for _ in range(4)])

    def test_no_members(self):
        same(self, [rank_of([]), independent_among([]), dependent_lot([]), sum_by([], ()), sum_by([], (0,))],
             [0, [], None, (), None])

    def test_empty_sum(self):
        same(self, [rank_of([()]), independent_among([()]), dependent_lot([()]), sum_by([()], ())], [0, [], (0,), ()])
        same(self, [dependent_lot([(0,), (), (1,)]), independent_among([(), (0,), ()])], [(1,), [1]])

    def test_equal_sums(self):
        same(self, [rank_of([(0, 1), (0, 1)]), dependent_lot([(0, 1), (0, 1)]), independent_among([(0, 1), (0, 1)])],
             [1, (0, 1), [0]])
        self.assertIn(sum_by([(2,), (2,)], (2,)), [(0,), (1,)])

    def test_forty(self):
        source = chance(3)
        for many in (3, 6, 12):
            for _ in range(5):
                sums = [some_row(source, many) for _ in range(40)]
                rank = plain_rank(sums)
                same(self, steady(self, rank_of, sums), rank)
                same(self, rank_of([sums[k] for k in independent_among(sums)]), rank)
                self.check_dependent(sums, True)
                for row in sums + [(), (0,), tuple(range(many))]:
                    self.check_made(sums, row, plain_rank(sums + [row]) == rank)

    def test_forty_independent(self):
        chain = [(k, k + 1) for k in range(40)]
        same(self, [rank_of(chain), dependent_lot(chain), independent_among(chain)], [40, None, list(range(40))])
        same(self, sum_by(chain, (0, 40)), tuple(range(40)))
        same(self, dependent_lot(chain + [(0, 40)]), tuple(range(41)))
        same(self, sum_by(chain, (0, 41)), None)

    def test_returned_list_is_new(self):
        sums = [(0,), (1,)]
        independent_among(sums).clear()
        same(self, [independent_among(sums), sums], [[0, 1], [(0,), (1,)]])


if __name__ == "__main__":
    unittest.main()
