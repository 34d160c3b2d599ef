"""[31], and what [9] says of rings: against all settings and all rings of small tight books."""

import time
import unittest
from itertools import permutations, product

from eithersums.orders import flat_order
from eithersums.rings import hanging, hangs_on, is_ring, shortest_ring, turned_by
from eithersums.settings import is_full, some_full
from tests.helpers import (all_lots, all_settings, any_values, chance, demands_full, demands_tight, full_clause,
                           is_plain_full, is_strict_integer, ordered_book, plain_rows, plain_together, same, steady,
                           tight_books, variants)

ZERO, EVER = (((0,), 0),), (((0,), 0), ((0,), 1))
BOTH = (2, ((((0,), 0), ((0, 1), 0)), (((0, 1), 1), ((1,), 0))))
# By its second line the first clause hangs on the second one, and by its third on itself.
SELF = (2, ((((0,), 0), ((0, 1), 0), ((1,), 0)), (((1,), 0), ((1,), 1))))


def plain_hanging(book, setting, clause, line):
    """Return the lot of the rows of the setting that make up the row of the line and that in the setting, together."""
    rows = plain_rows(book, setting)
    wanted = plain_together([book[1][clause][line][0], rows[clause]])
    found = [lot for lot in all_lots(len(rows)) if plain_together([rows[index] for index in lot]) == wanted]
    assert len(found) == 1
    return found[0]


def hangings(book, setting):
    """Return for each clause and line on which clauses it hangs."""
    return {(clause, line): plain_hanging(book, setting, clause, line)
            for clause in range(book[0]) for line in range(len(book[1][clause]))}


def plain_is_ring(book, setting, thing):
    """Tell whether a value is a RING from a setting, by its words."""
    if type(thing) is not tuple or not thing or not all(type(part) is tuple and len(part) == 2 for part in thing):
        return False
    for clause, line in thing:
        if not is_strict_integer(clause) or not is_strict_integer(line) or not 0 <= clause < book[0]:
            return False
        if not 0 <= line < len(book[1][clause]):
            return False
    if len({clause for clause, _ in thing}) < len(thing):
        return False
    behind = thing[1:] + thing[:1]
    return all(other in plain_hanging(book, setting, *part) for part, (other, _) in zip(thing, behind))


def all_rings(book, setting):
    """Return all RINGS from a setting, the shorter ones first."""
    hangs = hangings(book, setting)
    found = []
    for size in range(1, book[0] + 1):
        for clauses in permutations(range(book[0]), size):
            ways = [[line for line in range(len(book[1][clause])) if clauses[(k + 1) % size] in hangs[clause, line]]
                    for k, clause in enumerate(clauses)]
            found += [tuple(zip(clauses, lines)) for lines in product(*ways)]
    return found


def full_settings(book, most):
    return [setting for setting in all_settings(book) if is_plain_full(book, setting)][:most]


def exchanged_many(one, other):
    return len([k for k in range(len(one)) if one[k] != other[k]])


class TestHanging(unittest.TestCase):
    def test_all_lines(self):
        for book in tight_books():
            for setting in full_settings(book, 12):
                hangs = hangings(book, setting)
                for (clause, line), wanted in hangs.items():
                    same(self, steady(self, hanging, book, setting, clause, line), wanted, (book, setting, clause, line))
                    if book[1][clause][line][0] == book[1][clause][setting[clause]][0]:
                        same(self, wanted, ())
                    else:
                        self.assertNotEqual(wanted, ())
                wanted = tuple([tuple(sorted(set([other for (one, _), some in hangs.items() if one == clause
                                                  for other in some]))) for clause in range(book[0])])
                same(self, steady(self, hangs_on, book, setting), wanted, (book, setting))

    def test_edges(self):
        same(self, [hangs_on((0, ()), ()), hangs_on((1, (EVER,)), (1,)), hanging((1, (EVER,)), (1,), 0, 0)], [(), ((),), ()])
        same(self, [hanging(SELF, (0, 0), 0, 1), hanging(SELF, (0, 0), 0, 2), hanging(SELF, (0, 0), 1, 1)], [(1,), (0, 1), ()])
        same(self, [hangs_on(SELF, (0, 1)), hangs_on(SELF, (1, 1))], [((0, 1), ()), ((0, 1), ())])
        same(self, hangs_on(BOTH, (0, 1)), ((1,), (0,)))


class TestRings(unittest.TestCase):
    def test_shortest(self):
        """[9]: as many lines as a shortest ring has must be exchanged until a full setting is not full."""
        sizes = {}
        for book in tight_books():
            settings = all_settings(book)
            failing = [setting for setting in settings if not is_plain_full(book, setting)]
            for setting in full_settings(book, 10):
                rings = all_rings(book, setting)
                ring = steady(self, shortest_ring, book, setting)
                same(self, [ring is None, rings == []], [not failing, not failing], (book, setting))
                if ring is not None:
                    self.assertIn(ring, rings)
                    same(self, len(ring), len(rings[0]), (book, setting))
                    same(self, len(ring), min(exchanged_many(setting, other) for other in failing), (book, setting))
                    sizes[len(ring)] = True
                    turned = steady(self, turned_by, book, setting, ring)
                    same(self, is_plain_full(book, turned), False)
        self.assertLessEqual({1, 2, 3, 4}, set(sizes))

    def test_all_rings(self):
        longer = {True: 0, False: 0}
        for book in [book for book in tight_books() if book[0] < 4]:
            for setting in full_settings(book, 4):
                rings = all_rings(book, setting)
                for ring in rings[:40] + rings[-10:]:
                    same(self, steady(self, is_ring, book, setting, ring), True, (book, setting, ring))
                    wanted = tuple([dict(ring).get(k, line) for k, line in enumerate(setting)])
                    same(self, steady(self, turned_by, book, setting, ring), wanted)
                    full = is_plain_full(book, wanted)
                    self.assertFalse(full and len(ring) == len(rings[0]))
                    longer[full] += 1
        self.assertGreater(min(longer.values()), 5)

    def test_all_tuples_of_lines(self):
        for book in [book for book in tight_books() if book[0] < 3] + [SELF]:
            for setting in full_settings(book, 3):
                rings = {ring: True for ring in all_rings(book, setting)}
                lines = [(clause, line) for clause in range(book[0]) for line in range(len(book[1][clause]))]
                for size in range(4):
                    for thing in product(lines, repeat=size):
                        same(self, is_ring(book, setting, thing), thing in rings, (book, setting, thing))

    def test_edges(self):
        same(self, [shortest_ring((0, ()), ()), is_ring((0, ()), (), ()), shortest_ring((1, (EVER,)), (0,))], [None, False, None])
        same(self, [shortest_ring(SELF, (0, 0)), is_ring(SELF, (0, 0), ((0, 2),)), is_ring(SELF, (0, 0), ((0, 1),))],
             [((0, 2),), True, False])
        # By its line in the setting, or one with the same row, a clause hangs on none.
        same(self, [is_ring(BOTH, (0, 1), ((0, 1), (1, 0))), is_ring(BOTH, (0, 1), ((0, 0), (1, 0))),
                    is_ring(BOTH, (0, 1), ((1, 0), (0, 1)))], [True, False, True])
        same(self, [turned_by(BOTH, (0, 1), ((0, 1), (1, 0))), turned_by(SELF, (0, 1), ((0, 2),))], [(1, 0), (2, 1)])

    def test_a_line_that_is_no_hanging(self):
        book = (3, ((((0,), 0), ((0,), 1), ((0, 1), 0)), (((1,), 0), ((1, 2), 0)), (((2,), 0), ((0, 2), 0))))
        ring = shortest_ring(book, (0, 0, 0))
        same(self, ring, ((0, 2), (1, 1), (2, 1)))
        same(self, [is_ring(book, (0, 0, 0), ((0, 1), (1, 1), (2, 1))), is_ring(book, (1, 0, 0), ring)], [False, True])
        same(self, [is_ring(book, (0, 0, 0), ring[::-1]), is_ring(book, (0, 0, 0), ring[1:] + ring[:1])], [False, True])

    def test_wrong_rings(self):
        for book in [book for book in tight_books() if flat_order(book) is None and some_full(book)[0] == "full"][:25]:
            setting = some_full(book)[1]
            ring = shortest_ring(book, setting)
            found = []
            for thing in [ring, *variants(ring)]:
                found.append(plain_is_ring(book, setting, thing))
                same(self, is_ring(book, setting, thing), found[-1], (book, setting, thing))
            self.assertTrue(found[0])
            self.assertGreater(found.count(False), 20)

    def test_any_values(self):
        for book, setting in (((0, ()), ()), (SELF, (0, 0)), (BOTH, (0, 1))):
            for value in any_values():
                for thing in (value, (value,), ((0, value),), ((value, 2),), ((0, 1), value), ((0, 1), (1, value)), [(0, 2)],
                              ([0, 2],), ((0, 2), (0, 2)), ((0, 1, 0), (1, 0, 0))):
                    same(self, is_ring(book, setting, thing), plain_is_ring(book, setting, thing), (book, thing))


class TestErrors(unittest.TestCase):
    def test_not_tight(self):
        demands_tight(self, (hanging, (0,), 0, 0), (hangs_on, ()), (is_ring, (0,), None), (is_ring, (), ()),
                      (shortest_ring, (0, 0)), (turned_by, (0,), ((0, 0),)))

    def test_not_full(self):
        demands_full(self, (hanging, 0, 0), (hangs_on,), (is_ring, None), (is_ring, ((0, 0),)), (is_ring, [[]]),
                     (shortest_ring,), (turned_by, ((0, 0),)))


class TestBounds(unittest.TestCase):
    def test_twelve_unknowns(self):
        begun = time.time()
        for seed in range(4):
            source = chance(seed)
            # Few rows more in a book all of whose settings are full: rings are longer than by any rows.
            many, clauses = ordered_book(seed, 12, 3)
            more = [tuple(sorted(set(clause + full_clause(source, 12, 1)))) if k < 2 else clause
                    for k, clause in enumerate(clauses)]
            for book in ((many, tuple([full_clause(source, 12, 6) for _ in range(12)])), (many, tuple(more))):
                setting = some_full(book)[1]
                ring = steady(self, shortest_ring, book, setting)
                steady(self, hangs_on, book, setting)
                if ring is not None:
                    same(self, [is_ring(book, setting, ring), is_full(book, turned_by(book, setting, ring))], [True, False])
                    self.assertLess(is_plain_full(book, turned_by(book, setting, ring)), True)
            same(self, shortest_ring((many, clauses), some_full((many, clauses))[1]), None)
        self.assertLess(time.time() - begun, 30)

    def test_a_ring_of_twelve(self):
        book = (12, tuple([tuple(sorted([((k,), 0), (tuple(sorted([k, (k + 1) % 12])), 0)])) for k in range(12)]))
        setting = tuple([[row for row, _ in clause].index((k,)) for k, clause in enumerate(book[1])])
        ring = steady(self, shortest_ring, book, setting)
        same(self, [len(ring), is_ring(book, setting, ring), is_full(book, turned_by(book, setting, ring))], [12, True, False])


if __name__ == "__main__":
    unittest.main()
