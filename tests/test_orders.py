"""[30], and what [9] says of orders: against all settings, arrangements and sums of small tight books."""

import time
import unittest
from itertools import permutations, product

from eithersums.orders import are_forms, failing_setting, flat_order, forms_of, is_order
from eithersums.settings import is_full
from tests.helpers import (all_settings, any_values, chance, demands_tight, full_clause, is_plain_full, is_strict_integer,
                           is_strict_row, ordered_book, plain_span, plain_together, same, steady, sums_of, tight_books, variants)

ZERO, EVER = (((0,), 0),), (((0,), 0), ((0,), 1))
TOLD = (2, ((((0,), 0), ((0, 1), 1)), (((1,), 0),)))
BOTH = (2, ((((0,), 0), ((0, 1), 0)), (((0, 1), 1), ((1,), 0))))


def plain_is_order(book, thing):
    """Tell whether a value is an ORDER, by its words."""
    if type(thing) is not tuple or not all(is_strict_integer(part) for part in thing):
        return False
    if sorted(thing) != list(range(len(book[1]))):
        return False
    for place, index in enumerate(thing):
        ahead = plain_span([row for other in thing[:place] for row, _ in book[1][other]])
        rows = [row for row, _ in book[1][index]]
        if [row for row in rows if row in ahead]:
            return False
        if [1 for one in rows for other in rows if plain_together([one, other]) not in ahead]:
            return False
    return True


def common(row, form):
    return len(set(row) & set(form))


def plain_are_forms(book, arrangement, thing):
    """Tell whether a value is FORMS by an arrangement, by its words."""
    if type(thing) is not tuple or len(thing) != len(arrangement):
        return False
    if not all(form == () and type(form) is tuple or is_strict_row(book[0], form) for form in thing):
        return False
    for place, form in enumerate(thing):
        if not all(common(row, form) % 2 == 1 for row, _ in book[1][arrangement[place]]):
            return False
        if not all(common(row, form) % 2 == 0 for index in arrangement[:place] for row, _ in book[1][index]):
            return False
    return True


class TestOrders(unittest.TestCase):
    def test_all_arrangements(self):
        """[9]: all settings are full exactly if there is an order."""
        kinds = {True: 0, False: 0}
        for book in tight_books():
            orders = []
            for arrangement in permutations(range(book[0])):
                wanted = plain_is_order(book, arrangement)
                same(self, steady(self, is_order, book, arrangement), wanted, (book, arrangement))
                orders += [arrangement] if wanted else []
            full = all(is_plain_full(book, setting) for setting in all_settings(book))
            kinds[full] += 1
            found, failing = steady(self, flat_order, book), steady(self, failing_setting, book)
            same(self, [orders != [], found in orders, found is None, failing is None], [full, full, not full, full], book)
            if failing is not None:
                self.assertIn(failing, all_settings(book))
                same(self, [is_plain_full(book, failing), set(map(type, failing)) <= {int}], [False, True], book)
        self.assertGreater(min(kinds.values()), 20)

    def test_edges(self):
        same(self, [flat_order((0, ())), failing_setting((0, ())), is_order((0, ()), ()), forms_of((0, ()), ())],
             [(), None, True, ()])
        same(self, [flat_order((1, (EVER,))), failing_setting((1, (EVER,))), flat_order((2, (ZERO, ZERO)))],
             [(0,), None, None])
        same(self, [failing_setting((2, (ZERO, ZERO))), flat_order(TOLD), is_order(TOLD, (0, 1)), is_order(TOLD, (1, 0))],
             [(0, 0), (1, 0), False, True])
        same(self, [flat_order(BOTH), failing_setting(BOTH)], [None, (1, 0)])

    def test_wrong_orders(self):
        for book in [TOLD] + [ordered_book(seed, 3 + seed % 3, 3) for seed in range(8)]:
            order = flat_order(book)
            found = []
            for thing in [order, *variants(order)]:
                found.append(plain_is_order(book, thing))
                same(self, is_order(book, thing), found[-1], (book, thing))
            self.assertTrue(found[0])
            self.assertGreater(found.count(False), 20)

    def test_any_values(self):
        for book in ((0, ()), (1, (ZERO,)), TOLD, BOTH):
            for value in any_values():
                for thing in (value, (value,), (value, 0), (1, value), [1, 0]):
                    same(self, is_order(book, thing), plain_is_order(book, thing), (book, thing))


class TestForms(unittest.TestCase):
    def test_forms_of_all_orders(self):
        for book in tight_books():
            for order in permutations(range(book[0])):
                if plain_is_order(book, order):
                    forms = steady(self, forms_of, book, order)
                    same(self, [plain_are_forms(book, order, forms), steady(self, are_forms, book, order, forms)],
                         [True, True], (book, order))

    def test_all_tuples_of_sums(self):
        """[30]: there are some exactly if it is an ORDER."""
        for book in [book for book in tight_books() if book[0] < 3] + [TOLD, ordered_book(5, 3, 3), ordered_book(8, 3, 2)]:
            for arrangement in permutations(range(book[0])):
                found = []
                for thing in product(sums_of(book[0]), repeat=book[0]):
                    wanted = plain_are_forms(book, arrangement, thing)
                    found += [thing] if wanted else []
                    same(self, are_forms(book, arrangement, thing), wanted, (book, arrangement, thing))
                same(self, bool(found), plain_is_order(book, arrangement), (book, arrangement))

    def test_wrong_forms(self):
        for book in [TOLD] + [ordered_book(seed, 3 + seed % 3, 3) for seed in range(8)]:
            order = flat_order(book)
            forms = forms_of(book, order)
            other = order[1:] + order[:1]
            found = []
            for thing in [forms, *variants(forms)]:
                for arrangement in (order, other):
                    found.append(plain_are_forms(book, arrangement, thing))
                    same(self, are_forms(book, arrangement, thing), found[-1], (book, arrangement, thing))
            self.assertTrue(found[0])
            self.assertGreater(found.count(False), 40)

    def test_any_values(self):
        for book, order in (((0, ()), ()), ((1, (ZERO,)), (0,)), (TOLD, (1, 0)), (BOTH, (0, 1))):
            for value in any_values():
                for thing in (value, (value,), (value, (0,)), ((1,), value), ((1,), (value,)), [(1,), (0,)]):
                    wanted = plain_are_forms(book, order, thing)
                    same(self, are_forms(book, order, thing), wanted, (book, order, thing))


class TestErrors(unittest.TestCase):
    def test_not_tight(self):
        demands_tight(self, (flat_order,), (is_order, None), (is_order, (0,)), (is_order, [[]]), (forms_of, (0,)),
                      (forms_of, ()), (are_forms, (0,), None), (are_forms, (), ()), (failing_setting,))


class TestBounds(unittest.TestCase):
    def test_twelve_unknowns(self):
        begun = time.time()
        for seed in range(5):
            book = ordered_book(seed, 12, 6)
            order = steady(self, flat_order, book)
            forms = steady(self, forms_of, book, order)
            same(self, [plain_is_order(book, order), is_order(book, order), failing_setting(book)], [True, True, None])
            same(self, [plain_are_forms(book, order, forms), are_forms(book, order, forms)], [True, True])
            same(self, [is_order(book, order[::-1]), are_forms(book, order[::-1], forms)], [False, False])
        self.assertLess(time.time() - begun, 30)

    def test_twelve_unknowns_without_an_order(self):
        begun = time.time()
        for seed in range(5):
            source = chance(seed)
            many, clauses = ordered_book(seed, 12, 5)
            # One row more in a late clause, and a book of any rows.
            more = tuple(sorted(set(clauses[seed] + full_clause(source, 12, 1))))
            for book in ((many, clauses[:seed] + (more,) + clauses[seed + 1:]),
                         (many, tuple([full_clause(source, 12, 6) for _ in range(12)]))):
                failing = steady(self, failing_setting, book)
                same(self, [flat_order(book) is None, failing is None], [failing is not None, flat_order(book) is not None])
                if failing is not None:
                    same(self, [is_full(book, failing), is_plain_full(book, failing)], [False, False])
        self.assertLess(time.time() - begun, 30)


if __name__ == "__main__":
    unittest.main()
