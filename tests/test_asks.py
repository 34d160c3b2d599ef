"""[25], and [7] as far as it is about trees: against all bits, flats and sums of at most four unknowns."""

import unittest
from fractions import Fraction

from eithersums.asks import best_tree, fewest_asks, finds, height_of, leaves_of, mean_asks, mean_of, mean_tree, paper_by
from eithersums.papers import refutes
from tests.helpers import (HUGE, all_bits, any_values, bits_at, books_with_a_model, chance, crowded_book,
                           demands_no_model, plain_holds, plain_is_tree, plain_keeps, plain_leaves, plain_missed, same,
                           small_books_without, some_row, steady, sums_of, whole_book)

BOOK = (2, ((((0,), 1), ((1,), 1)), (((0,), 0),), (((0,), 1), ((1,), 0))))
TREE = ("ask", (0,), ("ask", (1,), ("end", 0), ("end", 2)), ("end", 1))


def plain_height(tree):
    return 0 if tree[0] == "end" else 1 + max(plain_height(tree[2]), plain_height(tree[3]))


def parts_many(tree):
    return 1 if tree[0] == "end" else 1 + parts_many(tree[2]) + parts_many(tree[3])


def plain_finds(book, thing):
    """Tell whether a value is a tree that finds: all bits that get to a leaf are missed by its clause."""
    if not plain_is_tree(book, thing):
        return False
    leaves = plain_leaves(thing)
    return not [1 for index, lines in leaves for bits in bits_at(book[0], lines) if plain_keeps(book[1][index], bits)]


def plain_mean(book, tree):
    """Return the mean number of asks on the way that bits go, each bits by themselves."""
    asks = 0
    for bits in all_bits(book[0]):
        part = tree
        while part[0] == "ask":
            part = part[2] if plain_holds((part[1], 0), bits) else part[3]
            asks += 1
    found = Fraction(asks, 1 << book[0])
    return (found.numerator, found.denominator)


def plain_best(book):
    """Return the least height and the least mean of trees that find, over all sums and sets of bits."""
    missed = [frozenset(plain_missed(book[0], clause)) for clause in book[1]]
    known = {}

    def best(bits):
        if bits not in known:
            known[bits] = (0, 0) if [1 for miss in missed if bits <= miss] else split(bits)
        return known[bits]

    def split(bits):
        found = []
        for row in sums_of(book[0]):
            zero = frozenset([some for some in bits if plain_holds((row, 0), some)])
            if zero and zero != bits:
                found.append((best(zero), best(bits - zero)))
        return (1 + min(max(one[0], other[0]) for one, other in found),
                len(bits) + min(one[1] + other[1] for one, other in found))

    height, asks = best(frozenset(all_bits(book[0])))
    mean = Fraction(asks, 1 << book[0])
    return height, (mean.numerator, mean.denominator)


def some_tree(source, book, lines=(), left=9):
    """Return a tree that finds, with rows that are told by answers ahead now and then, and anything behind them."""
    bits = bits_at(book[0], lines)
    ends = [index for index, clause in enumerate(book[1]) if not [1 for some in bits if plain_keeps(clause, some)]]
    if not bits and source.random() < 0.7:
        return ("end", source.randrange(len(book[1])))
    if ends and source.random() < 0.8 or left == 0 and not bits:
        return ("end", source.choice(ends))
    rows = [row for row in sums_of(book[0]) if row]
    cutting = [row for row in rows if len(set([plain_holds((row, 0), some) for some in bits])) > 1]
    if not rows or left == 0 and not cutting:
        return ("end", source.choice(ends))
    row = source.choice(cutting if cutting and (left < 5 or source.random() < 0.8) else rows)
    parts = [some_tree(source, book, lines + ((row, bit),), max(left - 1, 0)) for bit in (0, 1)]
    return ("ask", row, *parts)


def finding_trees():
    """Return tuples of a book and a tree that finds a missed clause."""
    source = chance(111)
    found = [(BOOK, TREE), ((0, ((),)), ("end", 0))]
    for book in small_books_without():
        for _ in range(3):
            found.append((book, some_tree(source, book)))
    return found


def long_tree(asks):
    """Return a tree of BOOK with so many asks, one behind the other, of which all but the first two are told ahead."""
    tree = ("end", 0)
    for at in range(asks - 2):
        tree = ("ask", ((0,), (1,), (0, 1))[at % 3], tree, ("end", at % 3))
    return ("ask", (0,), ("ask", (1,), tree, ("end", 2)), ("end", 1))


def unlike_trees(tree):
    """Return values that are near to a tree."""
    found = [list(tree), tree[:-1], tree + (0,), (tree,), tree[::-1], ("End", *tree[1:]), (None, *tree[1:]), tree[1:], None]
    if tree[0] == "end":
        for index in (tree[1] + 1, tree[1] - 1, -1, -2, HUGE, -HUGE, bool(tree[1]), str(tree[1]), None, (tree[1],), [0], 7):
            found.append(("end", index))
        found += [("ask", tree[1]), ("ask", (0,), tree, tree), ("ask", (), tree, tree), ("end",), ()]
        return found
    _, row, zero, unit = tree
    for other in ((), row[::-1] + row, row + (9,), row + (-1,), list(row), tuple(map(bool, row)), None, row[0], (row,),
                  (0,), (1,), (0, 1), (1, 0), "0", (None,), (str(row[0]),)):
        found.append(("ask", other, zero, unit))
    found += [("ask", row, unit, zero), ("ask", row, zero, zero), ("ask", row, zero), zero, unit, ("end", row, zero, unit),
              ("ask", row, (zero, unit)), ("ask", zero, row, unit), ("ask", row, zero, unit, unit), ("ask", row, zero, None)]
    found += [("ask", row, other, unit) for other in unlike_trees(zero)]
    return found + [("ask", row, zero, other) for other in unlike_trees(unit)]


class TestTrees(unittest.TestCase):
    def test_height_and_leaves(self):
        for _, tree in finding_trees():
            same(self, steady(self, height_of, tree), plain_height(tree), tree)
            same(self, steady(self, leaves_of, tree), plain_leaves(tree), tree)

    def test_edges(self):
        same(self, [height_of(("end", 5)), leaves_of(("end", 5)), height_of(TREE)], [0, [(5, ())], 2])
        leaves_of(TREE).clear()
        same(self, leaves_of(TREE), [(0, (((0,), 0), ((1,), 0))), (2, (((0,), 0), ((1,), 1))), (1, (((0,), 1),))])
        told = ("ask", (3,), ("end", 0), ("ask", (3,), ("end", 1), ("ask", (1, 3), ("end", 0), ("end", 0))))
        same(self, [height_of(told), height_of(("ask", (3,), told, ("end", 0)))], [3, 4])
        same(self, leaves_of(told), [(0, (((3,), 0),)), (1, (((3,), 1), ((3,), 0))), (0, (((3,), 1), ((3,), 1), ((1, 3), 0))),
                                     (0, (((3,), 1), ((3,), 1), ((1, 3), 1)))])

    def test_trees_without_a_book(self):
        """height_of and leaves_of have no book, so no error of one."""
        tree = ("ask", (7, 11), ("end", 23), ("end", 22))
        same(self, [height_of(tree), leaves_of(tree)], [1, [(23, (((7, 11), 0),)), (22, (((7, 11), 1),))]])

    def test_long_trees(self):
        tree = long_tree(149)
        same(self, [steady(self, height_of, tree), len(steady(self, leaves_of, tree))], [149, 150])
        same(self, leaves_of(tree)[-1], (1, (((0,), 1),)))
        same(self, [steady(self, finds, BOOK, tree), steady(self, mean_of, BOOK, tree)], [True, (153, 4)])
        paper = steady(self, paper_by, BOOK, tree)
        same(self, [refutes(BOOK, paper), len(paper) <= 299], [True, True])

    def test_longer_trees(self):
        tree = long_tree(600)
        same(self, [height_of(tree), len(leaves_of(tree)), finds(BOOK, tree), mean_of(BOOK, tree)], [600, 601, True, (151, 1)])
        same(self, refutes(BOOK, paper_by(BOOK, tree)), True)
        same(self, finds(BOOK, ("ask", (0,), tree, ("ask", (0,), ("end", 3), ("end", 1)))), False)


class TestFinds(unittest.TestCase):
    def test_trees_that_find(self):
        for book, tree in finding_trees():
            same(self, [steady(self, finds, book, tree), plain_finds(book, tree)], [True, True])

    def test_unlike_trees(self):
        counts = {True: 0, False: 0}
        for book, tree in finding_trees()[:60:3] + [(BOOK, TREE)]:
            for thing in unlike_trees(tree):
                wanted = plain_finds(book, thing)
                counts[wanted] += 1
                same(self, finds(book, thing), wanted, (book, thing))
        self.assertGreater(min(counts.values()), 20)

    def test_all_ends_of_a_tree(self):
        for first in range(3):
            for second in range(3):
                for third in range(3):
                    for row in ((0,), (1,), (0, 1)):
                        for other in ((0,), (1,), (0, 1)):
                            tree = ("ask", row, ("ask", other, ("end", first), ("end", second)), ("end", third))
                            same(self, finds(BOOK, tree), plain_finds(BOOK, tree), tree)

    def test_answers_that_cannot_be_mean_nothing(self):
        for index in range(3):
            tree = ("ask", (0,), TREE, ("ask", (0,), ("end", index), ("end", 1)))
            same(self, [finds(BOOK, tree), plain_finds(BOOK, tree)], [True, True])
        for index in (3, -1, None, True):
            same(self, finds(BOOK, ("ask", (0,), TREE, ("ask", (0,), ("end", index), ("end", 1)))), False)
        more = (2, BOOK[1] + ((((0,), 0), ((0,), 1)),))
        same(self, finds(more, ("ask", (0,), TREE, ("ask", (0,), ("end", 3), ("end", 1)))), True)
        same(self, finds(more, ("ask", (0,), TREE, ("ask", (0,), ("end", 1), ("end", 3)))), False)

    def test_any_values(self):
        for book in (BOOK, (0, ((),)), (1, ((),))):
            for value in any_values():
                for thing in (value, (value,), ("end", value), (value, 0), ("ask", value, ("end", 0), ("end", 1)),
                              ("ask", (0,), value, ("end", 1)), ("ask", (0,), ("end", 0), value), ["end", value],
                              ("ask", (0,), TREE[2], value), ("ask", (value,), TREE[2], TREE[3]), (value, (0,), TREE, TREE)):
                    same(self, finds(book, thing), plain_finds(book, thing), (book, thing))
        same(self, [finds((0, ((),)), ("end", 0)), finds((0, ((),)), ("end", False)), finds((0, ((),)), ["end", 0])],
             [True, False, False])


class TestBest(unittest.TestCase):
    def test_best(self):
        heights = []
        for book in small_books_without():
            height, mean = plain_best(book)
            heights.append(height)
            same(self, steady(self, fewest_asks, book), height, book)
            same(self, steady(self, mean_asks, book), mean, book)
            tree, other = steady(self, best_tree, book), steady(self, mean_tree, book)
            same(self, [plain_finds(book, tree), plain_height(tree)], [True, height], book)
            same(self, [plain_finds(book, other), plain_mean(book, other)], [True, mean], book)
        same(self, sorted(set(heights)), [0, 1, 2, 3, 4])

    def test_mean_of(self):
        for book, tree in finding_trees():
            same(self, steady(self, mean_of, book, tree), plain_mean(book, tree), (book, tree))

    def test_mean_edges(self):
        same(self, [mean_of((0, ((),)), ("end", 0)), mean_asks((0, ((),))), mean_asks((4, ((),)))], [(0, 1), (0, 1), (0, 1)])
        same(self, [mean_of(BOOK, TREE), mean_asks(BOOK), mean_of((1, ((),)), ("ask", (0,), ("end", 0), ("end", 0)))],
             [(3, 2), (3, 2), (1, 1)])
        same(self, [fewest_asks((0, ((),))), best_tree((0, ((),))), mean_tree((0, ((),)))], [0, ("end", 0), ("end", 0)])
        same(self, [best_tree((3, ((((0,), 0), ((0,), 1)), ()))), fewest_asks((4, ((), ())))], [("end", 1), 0])

    def test_least_mean_may_be_higher(self):
        # Half of all bits are found by one ask, if all others may take four.
        clauses = [(((0,), 0),), (((0,), 1), ((1,), 0)), (((0,), 1), ((1,), 1), ((2,), 0))]
        clauses += [(((0,), 1), ((1,), 1), ((2,), 1), ((3,), bit)) for bit in (0, 1)]
        book = (4, tuple(clauses))
        height, mean = plain_best(book)
        same(self, [mean_asks(book), fewest_asks(book), mean], [(15, 8), height, (15, 8)])
        same(self, plain_mean(book, mean_tree(book)), (15, 8))

    def test_at_the_bounds(self):
        for seed in range(3):
            for book in (crowded_book(seed, 4, 24), (4, whole_book(seed, 4, 16)[1] + crowded_book(seed, 4, 8)[1])):
                height, mean = plain_best(book)
                same(self, [steady(self, fewest_asks, book), steady(self, mean_asks, book)], [height, mean])
                tree, other = steady(self, best_tree, book), steady(self, mean_tree, book)
                same(self, [finds(book, tree), height_of(tree)], [True, height])
                same(self, [finds(book, other), mean_of(book, other)], [True, mean])


class TestPaperBy(unittest.TestCase):
    def test_paper_by(self):
        for book, tree in finding_trees():
            paper = steady(self, paper_by, book, tree)
            same(self, refutes(book, paper), True, (book, tree))
            self.assertLessEqual(len(paper), parts_many(tree))

    def test_edges(self):
        same(self, paper_by((0, ((), ())), ("end", 1)), (((), ("clause", 1)),))
        told = ("ask", (0,), ("ask", (0,), TREE, ("end", 0)), ("ask", (0,), ("end", 0), ("end", 1)))
        paper = paper_by(BOOK, told)
        same(self, [refutes(BOOK, paper), len(paper) <= 11], [True, True])


class TestErrors(unittest.TestCase):
    def test_has_model_and_too_many(self):
        for function in (fewest_asks, best_tree, mean_asks, mean_tree):
            demands_no_model(self, function)
        for function in (finds, mean_of, paper_by):
            for tree in (TREE, ("end", 0), ("end", 99), ("ask", (11,), ("end", 0), ("end", 1))):
                demands_no_model(self, function, tree)
        for thing in (None, [], "x", {(): 1}, ("end",), ("ask",), HUGE):
            demands_no_model(self, finds, thing)

    def test_four_unknowns_are_not_too_many(self):
        same(self, [fewest_asks((4, ((),))), finds((4, ((),)), ("end", 0)), finds((4, ((),)), ("end", 1))], [0, True, False])
        self.assertTrue(books_with_a_model())


if __name__ == "__main__":
    unittest.main()
