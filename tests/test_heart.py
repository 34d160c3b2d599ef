"""[24], and [6] as far as it is about the heart, against all lots of small books."""

import unittest
from itertools import product

from eithersums.beyond import beyond_of
from eithersums.books import clauses_of
from eithersums.errors import NotKept
from eithersums.heart import deciding_paper, heart, heart_book, is_deciding, led_on
from tests.helpers import (HUGE, all_bits, all_lots, any_values, chance, crowded_book, full_clause, great_book,
                           is_strict_integer, is_strict_lot, plain_keeps, plain_models, plain_rank, plain_span, plain_together,
                           same, some_book, some_clause, some_row, steady, sums_of, whole_book)

EVER, NEVER = (((0,), 0), ((0,), 1)), ()
ZERO, UNIT, BOTH = (((0,), 0),), (((0,), 1),), (((0,), 1), ((1,), 1))
A, B, C = ((0,), 1), ((1,), 0), ((0, 1), 1)
BOOK = (3, ((A,), (((0,), 0), ((2,), 1)), (A, B), (C,)))


def rows_of(book, lot):
    return [row for index in lot for row, _ in book[1][index]]


def plain_heart(book):
    """Return the clauses that are in each lot with the greatest number beyond its rank."""
    numbers = {lot: len(lot) - plain_rank(rows_of(book, lot)) for lot in all_lots(len(book[1]))}
    best = [set(lot) for lot in numbers if numbers[lot] == max(numbers.values())]
    return tuple(sorted(set.intersection(*best)))


def plain_is_deciding(book, thing):
    """Tell whether a value is a DECIDING PAPER, by its words."""
    if type(thing) is not tuple or len(thing) != 2 or not is_strict_lot(book, thing[0]) or type(thing[1]) is not dict:
        return False
    lot, chosen = thing
    if not all(is_strict_integer(key) and is_strict_integer(line) for key, line in chosen.items()):
        return False
    if sorted(chosen) != [index for index in range(len(book[1])) if index not in lot]:
        return False
    if not all(0 <= line < len(book[1][key]) for key, line in chosen.items()):
        return False
    told = plain_span(rows_of(book, lot))
    rows = [book[1][key][line][0] for key, line in chosen.items()]
    return not [1 for some in all_lots(len(rows)) if some and plain_together([rows[k] for k in some]) in told]


def small_books():
    """Return books of few unknowns, with clauses that never miss, clauses twice, and clauses without lines."""
    found = [(0, ()), (0, ((),)), (0, ((), ())), (1, ()), (1, (EVER,)), (1, (EVER, NEVER)), (1, (ZERO, UNIT, EVER)), BOOK]
    found += [(2, ()), (2, (NEVER, ZERO, UNIT)), (3, (ZERO, BOTH, EVER)), (2, (BOTH, BOTH, ZERO)), (2, (BOTH,) * 5)]
    found += [(4, (ZERO, ZERO, (((0, 1), 0), ((2,), 0)), (((1,), 0), ((3,), 1)))), (3, (UNIT, (((2,), 1), ((0,), 0)), ZERO))]
    for seed in range(80):
        many, clauses = some_book(seed, 1 + seed % 5, seed % 6, 1 + seed % 3)
        found.append((many, clauses + ((), (EVER,), clauses[:1], (NEVER,))[seed % 4]))
    for seed in range(20):
        source = chance(seed)
        inner = tuple([some_clause(source, 2, 2) for _ in range(3)])
        outer = tuple([tuple(sorted(set(some_clause(source, 5, 1) + ((some_row(source, 5), 1),)))) for _ in range(3)])
        found.append((5, inner + outer))
    return found


class TestHeart(unittest.TestCase):
    def test_heart(self):
        kinds = {True: 0, False: 0}
        for book in small_books():
            wanted = plain_heart(book)
            kinds[wanted == ()] += 1
            same(self, steady(self, heart, book), wanted, book)
            same(self, steady(self, heart_book, book), (book[0], tuple([book[1][index] for index in wanted])), book)
        self.assertGreater(min(kinds.values()), 15)

    def test_edges(self):
        same(self, [heart((0, ())), heart((0, ((),))), heart((0, ((), ()))), heart((3, ()))], [(), (0,), (0, 1), ()])
        same(self, [heart((1, (EVER,))), heart((1, (EVER, EVER))), heart((1, (EVER, NEVER)))], [(), (0, 1), (1,)])
        same(self, [heart((1, (ZERO, ZERO))), heart((2, (ZERO, ZERO, (((0,), 1), ((1,), 0)))))], [(0, 1), (0, 1)])
        same(self, [heart_book((0, ())), heart_book((0, ((),))), heart_book((2, (ZERO,)))], [(0, ()), (0, ((),)), (2, ())])

    def test_model_exactly_if_the_heart_has_one(self):
        for book in small_books():
            same(self, bool(plain_models(book)), bool(plain_models(heart_book(book))), "[6]")

    def test_a_contradiction_is_all_heart(self):
        for seed in range(12):
            book = whole_book(seed, 1 + seed % 4, min(2 + seed, 1 << (1 + seed % 4)))
            everything = tuple(range(len(book[1])))
            same(self, [heart(book), beyond_of(book, everything) > 0], [everything, True], "[6]")


class TestDeciding(unittest.TestCase):
    def test_all_lots_and_choices(self):
        for book in [book for book in small_books() if len(book[1]) < 5]:
            for lot in all_lots(len(book[1])):
                others = [index for index in range(len(book[1])) if index not in lot]
                for lines in product(*[range(len(book[1][index])) for index in others]):
                    thing = (lot, dict(zip(others, lines)))
                    same(self, is_deciding(book, thing), plain_is_deciding(book, thing), (book, thing))

    def test_deciding_paper(self):
        for book in small_books():
            found = steady(self, deciding_paper, book)
            same(self, plain_is_deciding(book, found), True, (book, found))
            same(self, [found[0], list(found[1]) == sorted(found[1])], [plain_heart(book), True])
            same(self, steady(self, is_deciding, book, found), True)
            same(self, is_deciding(book, (found[0], dict(reversed(list(found[1].items()))))), True)

    def test_wrong_ones(self):
        for book in (BOOK, (3, (ZERO, (((0,), 0), ((1,), 0)), (((0, 2), 0), ((1, 2), 0), ((2,), 1)))),
                     (3, (NEVER, ZERO, (((0, 1), 1), ((1,), 1))))):
            lot, chosen = deciding_paper(book)
            same(self, plain_is_deciding(book, (lot, chosen)), True)
            wrong = [[lot, chosen], (lot,), (chosen, lot), (lot, chosen, 0), (lot, list(chosen.items())), (lot, None), lot,
                     (list(lot), chosen), (lot[::-1], chosen), (lot + lot, chosen), (lot + (9,), chosen), chosen, (None, {}),
                     (tuple(map(bool, lot)), chosen), (lot + (-1,), chosen), (lot, tuple(sorted(chosen))), (lot, {})]
            for index in range(len(book[1])):
                wrong += [(lot[:index] + lot[index + 1:], chosen), (tuple(sorted(set(lot) | {index})), chosen)]
                wrong += [(lot, {**chosen, index: 0}), (lot, {key: chosen[key] for key in chosen if key != index})]
                for line in (-1, 0, 1, 2, 3, HUGE, -HUGE, True, False, None, "0", (0,), [0], {}):
                    if index in chosen:
                        wrong.append((lot, {**chosen, index: line}))
            for key in (-1, len(book[1]), HUGE, "0", None, (0,), (), True, False):
                wrong.append((lot, {**chosen, key: 0}))
                for old in chosen:
                    wrong.append((lot, {key if other == old else other: chosen[other] for other in chosen}))
            found = []
            for thing in wrong:
                found.append(plain_is_deciding(book, thing))
                same(self, is_deciding(book, thing), found[-1], (book, thing))
            self.assertGreater(found.count(False), 30)

    def test_truths_as_keys(self):
        book = (2, (ZERO, (((1,), 0), ((1,), 1))))
        same(self, is_deciding(book, ((), {0: 0, 1: 1})), True)
        for chosen in ({False: 0, 1: 1}, {0: 0, True: 1}, {0: 0, 1: True}, {0: False, 1: 1}, {"0": 0, 1: 1}):
            same(self, is_deciding(book, ((), chosen)), False, chosen)

    def test_edges(self):
        same(self, [deciding_paper((0, ())), deciding_paper((0, ((),))), deciding_paper((2, ((A,), (B,))))],
             [((), {}), ((0,), {}), ((), {0: 0, 1: 0})])
        same(self, [is_deciding((0, ()), ((), {})), is_deciding((0, ((),)), ((), {})), is_deciding((0, ((),)), ((0,), {}))],
             [True, False, True])
        same(self, [is_deciding((0, ((),)), ((), {0: 0})), is_deciding((1, (ZERO,)), ((0,), {}))], [False, True])
        same(self, [is_deciding(BOOK, ((0, 1, 2, 3), {})), is_deciding(BOOK, ((0, 2, 3), {1: 1}))], [True, True])
        same(self, is_deciding((1, (ZERO, UNIT)), ((0,), {1: 0})), False)

    def test_any_values(self):
        for book in (BOOK, (0, ()), (1, (ZERO,)), (0, ((),))):
            for value in any_values():
                for thing in (value, (value,), (value, {}), ((), value), ((0, 2, 3), value), (value, {1: 1}),
                              ((0, 2, 3), {1: value}), [value, {}], ((0, 2, value), {1: 1}), (value, value)):
                    same(self, is_deciding(book, thing), plain_is_deciding(book, thing), (book, thing))
                if value is None or isinstance(value, (int, str)):
                    thing = ((0, 2, 3), {value: 1})
                    same(self, is_deciding(BOOK, thing), plain_is_deciding(BOOK, thing), thing)


class TestLedOn(unittest.TestCase):
    def check(self, book, bits):
        lot = heart(book)
        missing = [index for index in lot if not plain_keeps(book[1][index], bits)]
        if missing:
            with self.assertRaises(NotKept) as caught:
                led_on(book, bits)
            same(self, caught.exception.index, missing[0])
            return False
        found = steady(self, led_on, book, bits)
        same(self, [len(found), set(map(type, found)) <= {int}, set(found) <= {0, 1}], [book[0], True, True])
        same(self, [clause for clause in book[1] if not plain_keeps(clause, found)], [])
        for row in rows_of(book, lot):
            same(self, sum([found[unknown] for unknown in row]) % 2, sum([bits[unknown] for unknown in row]) % 2)
        return True

    def test_all_bits(self):
        found = [self.check(book, bits) for book in small_books() for bits in all_bits(book[0])]
        self.assertGreater(min(found.count(True), found.count(False)), 100)

    def test_edges(self):
        same(self, [led_on((0, ()), ()), led_on((1, (UNIT,)), (0,)), led_on((1, (UNIT, UNIT)), (1,))], [(), (1,), (1,)])
        for book, bits, index in (((0, ((),)), (), 0), ((1, (ZERO, NEVER)), (0,), 1), ((1, (EVER, UNIT, UNIT)), (0,), 1)):
            with self.assertRaises(NotKept) as caught:
                led_on(book, bits)
            same(self, caught.exception.index, index)

    def test_rows_with_unknowns_in_common(self):
        for one in (0, 1):
            for other in (0, 1):
                for bits in all_bits(3):
                    self.check((3, ((((0, 2), one),), (((1, 2), other),))), bits)

    def test_at_the_bounds(self):
        source = chance(101)
        for seed in range(3):
            for book in (great_book(seed), whole_book(seed, 12, 24), crowded_book(seed, 12, 24)):
                lot, chosen = steady(self, deciding_paper, book)
                same(self, [steady(self, heart, book), steady(self, is_deciding, book, (lot, chosen))], [lot, True])
                greatest = beyond_of(book, lot)
                for index in lot:
                    self.assertLess(beyond_of(book, tuple([other for other in lot if other != index])), greatest)
                for bits in source.sample(all_bits(12), 5):
                    self.check(book, bits)

    def test_parts_at_the_bounds(self):
        # Of the first five unknowns there are more clauses than their rank; each other one has an own unknown.
        source = chance(102)
        inner = tuple([full_clause(source, 5, 6) for _ in range(17)])
        outer = tuple([tuple(sorted(set([((k,), 1)] + [(row, 0) for row in sums_of(5)[1:6]]))) for k in range(5, 12)])
        book = (12, outer + inner)
        same(self, heart(book), tuple(range(7, 24)))
        lot, chosen = steady(self, deciding_paper, book)
        same(self, chosen, {k: [line[0] for line in book[1][k]].index((5 + k,)) for k in range(7)})
        same(self, heart_book(book), clauses_of(book, lot))
        for bits in all_bits(12)[::151]:
            self.check(book, bits)


if __name__ == "__main__":
    unittest.main()
