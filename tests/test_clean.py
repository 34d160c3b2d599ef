"""[28], and [8] as far as it is about clean sums, trees and knots: against all rows and all bits of small books."""

import time
import unittest

from eithersums.apart import meeting
from eithersums.asks import height_of
from eithersums.clean import clean_rows, is_knot, is_tree_for, knot_of, parted, tree_for
from eithersums.errors import NotApart, NotWhole
from eithersums.flats import flat_of
from tests.helpers import (all_bits, all_lots, any_values, bits_at, chance, dressed, flats_up_to, is_strict_flat,
                           is_strict_lot, not_apart_books, parted_flats, plain_holds, plain_is_tree, plain_leaves,
                           plain_missed, plain_models, same, some_left_out, some_row, steady, sums_of, variants, whole_book)

EVER, NEVER = (((0,), 0), ((0,), 1)), ()
ZERO, UNIT = (((0,), 0),), (((0,), 1),)
ONE, TWO, THREE = ZERO, (((0,), 1), ((1, 2), 0)), (((0,), 1), ((1, 2), 1))
BOOK = (3, (ONE, TWO, THREE, EVER))
TREE = ("ask", (0,), ("ask", (1, 2), ("end", 2), ("end", 1)), ("end", 0))
A, B, C = (((0,), 0), ((1,), 1)), (((1,), 0), ((2,), 1)), (((0,), 1), ((2,), 0))
ODD = (3, (A, B, C, (((0,), 0), ((1,), 0), ((2,), 0)), (((0,), 1), ((1,), 1), ((2,), 1))))
# The lines (index of a row, bit) of five cells that no row parts.
CELLS = (((0, 1), (1, 0)), ((1, 1), (2, 0)), ((0, 0), (2, 1)), ((0, 1), (1, 1), (2, 1)), ((0, 0), (1, 0), (2, 0)))
FLATS = {many: {flat: frozenset(bits_at(many, flat)) for flat in flats_up_to(many, many)} for many in range(5)}


def drawn_cells(seed, many):
    """Return flats, drawn one by one, such that each bits are in just one of them."""
    source = chance(seed)
    left = set(all_bits(many))
    found = []
    while left:
        most = source.randrange(1, many + 1)
        fitting = [flat for flat, bits in FLATS[many].items() if bits <= left and len(flat) <= most]
        if fitting:
            found.append(source.choice(fitting))
            left -= FLATS[many][found[-1]]
    return found


def book_of(seed, many, flats):
    """Return a BOOK whose clauses miss these flats, in any order, some that miss nothing among them."""
    source = chance(seed)
    clauses = [dressed(source, flat, 6) for flat in flats]
    clauses += [((row, 0), (row, 1)) for row in [some_row(source, many) for _ in range(seed % 3)]]
    source.shuffle(clauses)
    return (many, tuple(clauses))


def knotted_cells(seed, many, count):
    """Return flats that part all bits, of which five make up one that no row parts."""
    source = chance(seed)
    flats = parted_flats(seed, many, count)
    flat = source.choice([one for one in flats if len(one) <= min(3, many - 3)])
    rows = []
    inner = flat
    while len(rows) < 3:
        row = some_row(source, many)
        if flat_of([*inner, (row, 0)]) is not None and flat_of([*inner, (row, 1)]) is not None:
            rows.append(row)
            inner = flat_of([*inner, (row, 0)])
    flats.remove(flat)
    return flats + [flat_of([*flat, *[(rows[k], bit) for k, bit in cell]]) for cell in CELLS]


def whole_books():
    """Return books of few unknowns, all of whose bits are missed by just one clause."""
    found = [(0, ((),)), (1, (NEVER,)), (1, (EVER, ZERO, EVER, UNIT)), (1, (EVER, NEVER)), (1, (UNIT, ZERO)), BOOK, ODD]
    found += [whole_book(seed, 1 + seed % 4, min(2 + seed // 2, 1 << (1 + seed % 4))) for seed in range(20)]
    found += [book_of(seed, 2 + seed % 3, drawn_cells(seed, 2 + seed % 3)) for seed in range(40)]
    found += [book_of(seed, 3 + seed % 2, knotted_cells(seed, 3 + seed % 2, 1 + seed % 2)) for seed in range(1, 16, 2)]
    return found


def books_with_models():
    """Return books that are apart, of few unknowns, with models."""
    found = [(0, ()), (1, ()), (1, (EVER,)), (3, ()), (2, (ZERO,)), (2, (EVER, EVER)), (3, (ONE, EVER, TWO))]
    found += [(3, ODD[1][:k] + ODD[1][k + 1:]) for k in range(5)]
    found += [some_left_out(seed, 1 + seed % 4, min(1 + seed // 2, 1 << (1 + seed % 4))) for seed in range(20)]
    return [book for book in found if plain_models(book)]


def missed_sets(book):
    return [frozenset(plain_missed(book[0], clause)) for clause in book[1]]


def is_told(row, bits):
    return len(set(plain_holds((row, 0), some) for some in bits)) == 1


def plain_clean_rows(many, flat, missed):
    """Return all rows without a head of the flat that are told on each of these sets, but not on all of them."""
    heads = [row[0] for row, _ in flat]
    rows = [row for row in sums_of(many) if row and not [unknown for unknown in row if unknown in heads]]
    return sorted([row for row in rows if all(is_told(row, some) for some in missed)
                   and not is_told(row, frozenset().union(*missed))])


def lots_and_flats(book):
    """Return all LOTS that make up a flat, each with this flat, by all bits."""
    missed = missed_sets(book)
    flats = {bits: flat for flat, bits in FLATS[book[0]].items()}
    found = []
    for lot in all_lots(len(book[1])):
        bits = frozenset().union(*[missed[index] for index in lot])
        if bits in flats and all(missed[index] for index in lot):
            found.append((flats[bits], lot))
    return found


def has_plain_tree(book):
    """Tell whether the misses can be parted again and again, by whatever clean rows."""
    missed = missed_sets(book)
    known = {}

    def parts(lot):
        if lot not in known:
            known[lot] = len(lot) == 1 or [1 for row in sums_of(book[0]) if can(lot, row)] != []
        return known[lot]

    def can(lot, row):
        if not all(is_told(row, missed[index]) for index in lot):
            return False
        zero = tuple([index for index in lot if [1 for bits in missed[index] if plain_holds((row, 0), bits)]])
        other = tuple([index for index in lot if index not in zero])
        return zero != () and other != () and parts(zero) and parts(other)

    return parts(tuple([index for index in range(len(missed)) if missed[index]]))


def plain_is_tree_for(book, thing):
    """Tell whether a value is such a TREE, by its words: each end has just the bits that its clause misses."""
    if not plain_is_tree(book, thing):
        return False
    missed = [plain_missed(book[0], clause) for clause in book[1]]
    leaves = plain_leaves(thing)
    if sorted([index for index, _ in leaves]) != [index for index in range(len(missed)) if missed[index]]:
        return False
    return all(bits_at(book[0], lines) == missed[index] for index, lines in leaves)


def plain_is_knot(book, thing):
    """Tell whether a value is a KNOT, by its words."""
    if type(thing) is not tuple or len(thing) != 2 or not is_strict_flat(book[0], thing[0]):
        return False
    if not is_strict_lot(book, thing[1]) or len(thing[1]) < 2:
        return False
    flat, lot = thing
    missed = [plain_missed(book[0], book[1][index]) for index in lot]
    if [] in missed or sorted(bits for some in missed for bits in some) != bits_at(book[0], flat):
        return False
    return plain_clean_rows(book[0], flat, missed) == []


class TestCleanRows(unittest.TestCase):
    def test_all_lots_that_make_up_a_flat(self):
        kinds = {}
        for book in whole_books() + books_with_models():
            missed = missed_sets(book)
            for flat, lot in lots_and_flats(book)[:60]:
                wanted = plain_clean_rows(book[0], flat, [missed[index] for index in lot])
                kinds[len(lot) > 1, len(wanted)] = True
                same(self, steady(self, clean_rows, book, flat, lot), wanted, (book, flat, lot))
        self.assertLessEqual({(False, 0), (True, 0), (True, 1), (True, 3), (True, 7)}, set(kinds))

    def test_what_is_told_on_all_misses(self):
        """Such a sum is () or a clean row, and some rows of the flat, together."""
        for book in whole_books()[:40]:
            missed = missed_sets(book)
            for flat, lot in lots_and_flats(book)[:20]:
                told = [row for row in sums_of(book[0]) if all(is_told(row, missed[index]) for index in lot)]
                self.assertEqual(len(told), (1 + len(clean_rows(book, flat, lot))) << len(flat))

    def test_edges(self):
        same(self, [clean_rows((0, ((),)), (), (0,)), clean_rows((1, (EVER, NEVER)), (), (1,))], [[], []])
        same(self, [clean_rows(BOOK, (), (0, 1, 2)), clean_rows(BOOK, UNIT, (0,)), clean_rows(BOOK, ZERO, (1, 2))],
             [[(0,)], [], [(1, 2)]])
        points = (2, tuple([(((0,), one), ((1,), other)) for one in (0, 1) for other in (0, 1)]))
        same(self, clean_rows(points, (), (0, 1, 2, 3)), [(0,), (0, 1), (1,)])
        same(self, clean_rows(points, (((0, 1), 0),), (0, 3)), [(1,)])


class TestTrees(unittest.TestCase):
    def test_tree_or_knot(self):
        kinds = {True: 0, False: 0}
        for book in whole_books():
            tree, knot = steady(self, tree_for, book), steady(self, knot_of, book)
            kinds[tree is None] += 1
            same(self, [tree is not None, knot is None], [has_plain_tree(book)] * 2, book)
            if tree is not None:
                same(self, [plain_is_tree_for(book, tree), steady(self, is_tree_for, book, tree)], [True, True], book)
            else:
                same(self, [plain_is_knot(book, knot), steady(self, is_knot, book, knot)], [True, True], (book, knot))
        self.assertGreater(min(kinds.values()), 10)

    def test_any_clean_row_leads_on(self):
        """[8]: if there is a tree, it makes no difference which clean row is taken."""
        for book in [book for book in whole_books() if tree_for(book) is not None]:
            source = chance(len(book[1]))
            waiting = [((), tuple([index for index, some in enumerate(missed_sets(book)) if some]))]
            while waiting:
                flat, lot = waiting.pop()
                if len(lot) > 1:
                    rows = clean_rows(book, flat, lot)
                    self.assertTrue(rows, (book, flat, lot))
                    waiting += parted(book, flat, lot, source.choice(rows))

    def test_right_and_wrong_trees(self):
        for book in [BOOK, (0, ((),)), (1, (EVER, NEVER)), (1, (UNIT, ZERO)), whole_book(3, 2, 4), whole_book(5, 3, 4)]:
            tree = tree_for(book)
            found = []
            for thing in [tree, *variants(tree)]:
                found.append(plain_is_tree_for(book, thing))
                same(self, is_tree_for(book, thing), found[-1], (book, thing))
            self.assertTrue(found[0])
            self.assertGreater(found.count(False), 15)

    def test_other_right_trees(self):
        points = (2, tuple([(((0,), one), ((1,), other)) for one in (0, 1) for other in (0, 1)]))
        for row in ((0,), (1,), (0, 1)):
            for one in ((0,), (1,), (0, 1)):
                for other in ((0,), (1,), (0, 1)):
                    for ends in ((0, 1, 2, 3), (3, 2, 1, 0), (2, 3, 1, 0), (3, 1, 2, 0), (3, 0, 1, 2), (3, 0, 2, 1)):
                        ends = [("end", index) for index in ends]
                        thing = ("ask", row, ("ask", one, *ends[:2]), ("ask", other, *ends[2:]))
                        same(self, is_tree_for(points, thing), plain_is_tree_for(points, thing), thing)

    def test_wrong_trees_by_kind(self):
        end = [("end", k) for k in range(5)]
        ask = ("ask", (1, 2), end[2], end[1])
        self.assertTrue(is_tree_for(BOOK, ("ask", (0,), ask, end[0])))
        self.assertTrue(is_tree_for(BOOK, TREE))
        for thing in (("ask", (0,), ("ask", (1, 2), end[1], end[2]), end[0]), ("ask", (0,), end[0], ask),
                      ("ask", (0,), ("ask", (1, 2), end[2], end[2]), end[0]), ("ask", (0,), ask, end[2]),
                      ("ask", (0,), ask, ("ask", (0,), end[3], end[0])), ("ask", (0,), ask, ("ask", (0,), end[0], end[0])),
                      ("ask", (0,), ("ask", (0,), ask, ask), end[0]), ("ask", (0,), ("ask", (0,), ask, end[3]), end[0]),
                      ("ask", (0,), ("ask", (1,), end[2], end[1]), end[0]), ("ask", (0, 1), ask, end[0]),
                      ("ask", (0,), end[2], end[0]), ("ask", (0,), ask, end[3]), ask, end[0], end[3], end[4],
                      ("ask", (0,), ("ask", (1, 2), end[2], ("ask", (1, 2), end[1], end[1])), end[0]),
                      ("ask", (0,), ask, ("ask", (1,), end[0], end[0])), ("ask", (), ask, end[0]), ("ask", (0,), ask),
                      ("ask", (3,), ask, end[0]), ["ask", (0,), ask, end[0]], ("ask", [0], ask, end[0]),
                      ("ask", (0,), ask, ("end", False)), ("ask", (False,), ask, end[0]), ("ask", (0,), ask, ["end", 0])):
            same(self, [is_tree_for(BOOK, thing), plain_is_tree_for(BOOK, thing)], [False, False], thing)

    def test_books_with_models_have_none(self):
        for book in books_with_models():
            for thing in (TREE, ("end", 0), ("end", 1), ("ask", (0,), ("end", 0), ("end", 1)), (), None):
                same(self, is_tree_for(book, thing), False, (book, thing))

    def test_edges(self):
        same(self, [tree_for((0, ((),))), tree_for((1, (EVER, NEVER))), tree_for((1, (UNIT, EVER, ZERO)))],
             [("end", 0), ("end", 1), ("ask", (0,), ("end", 0), ("end", 2))])
        same(self, [knot_of((0, ((),))), knot_of((1, (EVER, NEVER))), knot_of(BOOK), tree_for(ODD)], [None] * 4)
        same(self, [is_tree_for((0, ((),)), ("end", 0)), is_tree_for((0, ()), ("end", 0)), is_tree_for((0, ()), ())],
             [True, False, False])
        same(self, [is_tree_for((1, (EVER, NEVER)), ("end", 1)), is_tree_for((1, (EVER, NEVER)), ("end", 0))], [True, False])

    def test_any_values(self):
        for book in (BOOK, (0, ((),)), (0, ()), ODD):
            for value in any_values():
                for thing in (value, (value,), ("end", value), (value, 0), ("ask", value, TREE, TREE), ("ask", (0,), TREE, value),
                              ("ask", (0,), value, value), ("ask", (value,), TREE, TREE), (value, (0,), TREE, TREE)):
                    same(self, is_tree_for(book, thing), plain_is_tree_for(book, thing), (book, thing))

    def test_long_trees(self):
        """Trees of 300 asks and ends, and deep ones: fast, and without deep calls."""
        begun = time.time()
        for book in (BOOK, whole_book(1, 12, 24)):
            tree = tree_for(book)
            for row in ((0,), (1, 2), (0, 1, 2)):
                for place in (2, 3):
                    thing = tree
                    for _ in range(140):
                        thing = ("ask", row, thing, ("end", 0)) if place == 2 else ("ask", row, ("end", 0), thing)
                    same(self, is_tree_for(book, thing), False)
        self.assertLess(time.time() - begun, 10)


class TestKnots(unittest.TestCase):
    def test_all_lots_and_some_flats(self):
        for book in [book for book in whole_books() + books_with_models() if book[0] < 4 and len(book[1]) < 7]:
            made = dict([(lot, flat) for flat, lot in lots_and_flats(book)])
            source = chance(len(book[1]))
            for lot in all_lots(len(book[1])):
                for flat in {made.get(lot, ()): 1, (): 1, source.choice(list(FLATS[book[0]])): 1}:
                    wanted = plain_is_knot(book, (flat, lot))
                    same(self, steady(self, is_knot, book, (flat, lot)), wanted, (book, flat, lot))

    def test_wrong_knots(self):
        inner = (4, tuple([tuple(sorted([*clause, ((3,), 0)])) for clause in ODD[1]]) + ((((3,), 1),), EVER))
        for book, knot in ((ODD, ((), (0, 1, 2, 3, 4))), (inner, ((((3,), 1),), (0, 1, 2, 3, 4)))):
            found = []
            for thing in [knot, *variants(knot)]:
                found.append(plain_is_knot(book, thing))
                same(self, is_knot(book, thing), found[-1], (book, thing))
            self.assertTrue(found[0])
            self.assertGreater(found.count(False), 40)
            self.assertEqual(found.count(True), 1)

    def test_edges(self):
        lot = (0, 1, 2, 3, 4)
        more = (3, (EVER, *ODD[1], EVER))
        same(self, [is_knot(ODD, ((), lot)), is_knot(ODD, (ZERO, lot)), is_knot(ODD, ((), lot[1:])), is_knot(ODD, ((), ()))],
             [True, False, False, False])
        same(self, [is_knot(more, ((), (1, 2, 3, 4, 5))), is_knot(more, ((), (0, 1, 2, 3, 4, 5))), knot_of(more)],
             [True, False, ((), (1, 2, 3, 4, 5))])
        same(self, [is_knot((0, ((),)), ((), (0,))), is_knot((0, ()), ((), ())), is_knot((1, (UNIT, ZERO)), ((), (0, 1)))],
             [False] * 3)
        # A flat that is not reduced, though it tells the same.
        inner = (4, tuple([tuple(sorted([*clause, ((3,), 0)])) for clause in ODD[1]]))
        same(self, [is_knot(inner, ((((3,), 1),), lot)), is_knot(inner, ((((0, 3), 1),), lot))], [True, False])

    def test_a_knot_without_the_whole(self):
        """is_knot asks nothing about models; five clauses may be a knot while others lack."""
        inner = (4, tuple([tuple(sorted([*clause, ((3,), 0)])) for clause in ODD[1]]))
        same(self, [len(plain_models(inner)), is_knot(inner, ((((3,), 1),), (0, 1, 2, 3, 4)))], [8, True])

    def test_any_values(self):
        for book in (ODD, (0, ((),)), (0, ())):
            for value in any_values():
                for thing in (value, (value,), ((), value), (value, (0, 1, 2, 3, 4)), [(), (0, 1, 2, 3, 4)],
                              ((), (0, 1, 2, 3, value)), ((value,), (0, 1)), (value, value)):
                    same(self, is_knot(book, thing), plain_is_knot(book, thing), (book, thing))


class TestParted(unittest.TestCase):
    def test_all_clean_rows(self):
        for book in whole_books() + books_with_models():
            missed = missed_sets(book)
            for flat, lot in lots_and_flats(book)[-20:]:
                for row in clean_rows(book, flat, lot)[:5]:
                    wanted = []
                    for bit in (0, 1):
                        half = frozenset([bits for bits in FLATS[book[0]][flat] if plain_holds((row, bit), bits)])
                        name = [one for one, bits in FLATS[book[0]].items() if bits == half][0]
                        wanted.append((name, tuple([index for index in lot if missed[index] <= half])))
                    same(self, steady(self, parted, book, flat, lot, row), tuple(wanted), (book, flat, lot, row))

    def test_edges(self):
        same(self, parted(BOOK, ZERO, (1, 2), (1, 2)),
             (((((0,), 0), ((1, 2), 0)), (2,)), ((((0,), 0), ((1, 2), 1)), (1,))))
        same(self, parted((1, (EVER, UNIT, EVER, ZERO)), (), (1, 3), (0,)), ((ZERO, (1,)), (UNIT, (3,))))


class TestErrors(unittest.TestCase):
    def test_not_apart_ahead_of_all(self):
        for book in not_apart_books():
            for function, *args in ((clean_rows, (), (0, 1)), (tree_for,), (knot_of,), (is_tree_for, TREE), (is_tree_for, None),
                                    (is_tree_for, [[]]), (is_knot, ((), (0, 1))), (is_knot, None), (is_knot, {}),
                                    (parted, (), (0, 1), (0,))):
                with self.assertRaises(NotApart) as caught:
                    function(book, *args)
                same(self, (caught.exception.one, caught.exception.other), meeting(book), (book, function))

    def test_not_whole(self):
        for book in books_with_models():
            for function in (tree_for, knot_of):
                with self.assertRaises(NotWhole) as caught:
                    function(book)
                same(self, caught.exception.bits, plain_models(book)[0], book)
            same(self, [is_tree_for(book, None), is_knot(book, None)], [False, False])

    def test_results_are_new(self):
        clean_rows(BOOK, (), (0, 1, 2)).clear()
        same(self, clean_rows(BOOK, (), (0, 1, 2)), [(0,)])


class TestBounds(unittest.TestCase):
    def test_twelve_unknowns(self):
        begun = time.time()
        for seed in range(3):
            book = whole_book(seed, 12, 24)
            tree = steady(self, tree_for, book)
            same(self, [plain_is_tree_for(book, tree), is_tree_for(book, tree), knot_of(book)], [True, True, None])
            self.assertLessEqual(height_of(tree), 12)
            rows = clean_rows(book, (), tuple(range(24)))
            zero, unit = parted(book, (), tuple(range(24)), rows[0])
            same(self, [tuple(sorted(zero[1] + unit[1])), is_knot(book, ((), tuple(range(24))))], [tuple(range(24)), False])
        self.assertLess(time.time() - begun, 30)

    def test_twelve_unknowns_with_a_knot(self):
        begun = time.time()
        for seed in range(3):
            book = (12, book_of(3, 12, knotted_cells(seed, 12, 18))[1][:24])
            knot = steady(self, knot_of, book)
            same(self, [len(book[1]), tree_for(book), plain_is_knot_by_bits(book, knot), is_knot(book, knot)],
                 [22, None, True, True], book)
            for index in knot[1]:
                same(self, is_knot(book, (knot[0], tuple([other for other in knot[1] if other != index]))), False)
        self.assertLess(time.time() - begun, 30)


def plain_is_knot_by_bits(book, knot):
    """Tell whether a flat and a LOT are a KNOT, for many unknowns: by all bits, and all rows with few misses."""
    flat, lot = knot
    missed = [plain_missed(book[0], book[1][index]) for index in lot]
    whole = sorted(bits for some in missed for bits in some)
    if len(lot) < 2 or [] in missed or whole != bits_at(book[0], flat):
        return False
    for row in sums_of(book[0]):
        if row and all(is_told(row, some[:1] + some[-40:]) for some in missed) and all(is_told(row, some) for some in missed):
            if not is_told(row, whole):
                return False
    return True


if __name__ == "__main__":
    unittest.main()
