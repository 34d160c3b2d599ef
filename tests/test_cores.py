"""[22]: cores, against all lots of small books; [6]: a core has more clauses than its rank."""

import unittest

from eithersums.books import clauses_of
from eithersums.cores import all_cores, core_of, core_paper, is_core, least_cores, needed_clauses
from eithersums.errors import HasModel, TooMany
from eithersums.papers import refutes
from tests.helpers import (HUGE, all_lots, any_values, chance, crowded_book, dressed, great_book, parted_flats,
                           plain_keeps, plain_models, plain_rank, same, some_book, steady, whole_book)

EVER, NEVER = (((0,), 0), ((0,), 1)), ()
ZERO, UNIT, BOTH = (((0,), 0),), (((0,), 1),), (((0,), 1), ((1,), 1))
MORE = (2, (BOTH, ZERO, (((0, 1), 0),), (((1,), 0),)))


def small_books():
    """Return books of few unknowns, most of them without a model, with clauses that miss nothing and clauses twice."""
    found = [(0, ()), (0, ((),)), (0, ((), ())), (1, (EVER,)), (1, (EVER, NEVER)), (1, (ZERO, UNIT, ZERO, UNIT)), MORE]
    found += [(2, ()), (2, (NEVER, ZERO, UNIT)), (1, (ZERO, EVER, UNIT, EVER)), (3, (ZERO, (((1,), 1),)))]
    for seed in range(50):
        many, clauses = some_book(seed, 1 + seed % 4, 2 + seed % 6, 1 + seed % 3)
        found.append((many, clauses + (clauses[:1] if seed % 3 else (EVER,) + clauses[-1:])))
    return found


def plain_cores(book):
    """Return all cores, by all bits and all lots."""
    missers = [tuple([index for index, clause in enumerate(book[1]) if not plain_keeps(clause, bits)])
               for bits in plain_models((book[0], ()))]
    refuted = [lot for lot in all_lots(len(book[1])) if all(set(lot) & set(missing) for missing in missers)]
    known = set(refuted)
    return sorted([lot for lot in refuted if not [1 for index in lot if tuple(sorted(set(lot) - {index})) in known]])


class TestCores(unittest.TestCase):
    def test_all_cores(self):
        for book in small_books():
            wanted = plain_cores(book)
            same(self, steady(self, all_cores, book), wanted, book)
            least = min([len(core) for core in wanted], default=0)
            same(self, steady(self, least_cores, book), [core for core in wanted if len(core) == least], book)

    def test_core_of(self):
        for book in small_books():
            wanted = plain_cores(book)
            found = steady(self, core_of, book)
            self.assertTrue(found in wanted if wanted else found is None, book)

    def test_is_core(self):
        for book in small_books():
            wanted = plain_cores(book)
            for lot in all_lots(len(book[1])):
                same(self, is_core(book, lot), lot in wanted, (book, lot))
            for core in wanted:
                same(self, steady(self, is_core, book, core), True)
                self.assertGreater(len(core), plain_rank([row for index in core for row, _ in book[1][index]]), "[6]")

    def test_needed_clauses(self):
        for book in small_books():
            if plain_models(book):
                with self.assertRaises(HasModel) as caught:
                    needed_clauses(book)
                self.assertIn(caught.exception.bits, plain_models(book))
                continue
            clauses = book[1]
            wanted = [index for index in range(len(clauses))
                      if plain_models((book[0], clauses[:index] + clauses[index + 1:]))]
            same(self, steady(self, needed_clauses, book), tuple(wanted), book)
            same(self, wanted, [index for index in range(len(clauses))
                                if not [1 for core in plain_cores(book) if index not in core]])

    def test_core_paper(self):
        for book in small_books():
            for core in plain_cores(book):
                paper = steady(self, core_paper, book, core)
                same(self, refutes(book, paper), True)
                named = [reason[1] for _, reason in paper if reason[0] == "clause"]
                same(self, sorted(set(named)), list(core))

    def test_edges(self):
        same(self, [core_of((0, ())), all_cores((0, ())), least_cores((0, ())), core_of((2, ()))], [None, [], [], None])
        same(self, [core_of((0, ((),))), all_cores((0, ((), ()))), core_paper((0, ((), ())), (1,))],
             [(0,), [(0,), (1,)], (((), ("clause", 1)),)])
        same(self, [needed_clauses((0, ((),))), needed_clauses((0, ((), ()))), needed_clauses((1, (ZERO, NEVER, UNIT)))],
             [(0,), (), ()])
        same(self, [all_cores((1, (ZERO, NEVER, UNIT))), least_cores((1, (ZERO, NEVER, UNIT)))], [[(0, 2), (1,)], [(1,)]])
        same(self, [all_cores((1, (EVER, NEVER))), needed_clauses((1, (EVER, NEVER)))], [[(1,)], (1,)])
        same(self, all_cores((1, (ZERO, UNIT, ZERO))), [(0, 1), (1, 2)])

    def test_list_is_new(self):
        for function in (all_cores, least_cores):
            function(MORE).clear()
            same(self, len(function(MORE)), 3)


class TestIsCore(unittest.TestCase):
    def test_wrong_cores(self):
        same(self, is_core(MORE, (0, 1, 2)), True)
        wrong = [[0, 1, 2], (1, 0, 2), (2, 1, 0), (0, 1, 1, 2), (False, 1, 2), (0, True, 2), (0, 1, 4), (-1, 0, 1),
                 (0, 1), (0, 1, 2, 3), (1, 2, 3), (), (0, 1, "2"), (0, 1, None), ((0, 1, 2),), (0, (1,), 2), (0, 1, HUGE),
                 (-HUGE, 0, 1), None, 0, "012", {0: 1, 1: 1, 2: 1}]
        for thing in wrong:
            same(self, is_core(MORE, thing), False, thing)
        same(self, [is_core((0, ((),)), (0,)), is_core((0, ((),)), (False,)), is_core((0, ((),)), [0])],
             [True, False, False])
        same(self, [is_core((2, ()), ()), is_core((0, ()), ()), is_core((0, ((), ())), (0, 1))], [False, False, False])

    def test_any_values(self):
        for book in (MORE, (0, ()), (1, (ZERO,))):
            for value in any_values():
                for thing in (value, (value,), [value], (0, 1, value), (value, 1, 2)):
                    fits = book == MORE and repr(thing) in ("(0, 1, 2)",)
                    same(self, is_core(book, thing), fits, (book, thing))
        same(self, [is_core((0, ((),)), value) for value in any_values() if repr(value) == "(0,)"], [True])


class TestErrors(unittest.TestCase):
    def test_too_many(self):
        for clauses in ((NEVER,) * 13, (ZERO,) * 13, (EVER,) * 24, (ZERO, UNIT) * 7):
            for function in (all_cores, least_cores):
                with self.assertRaises(TooMany) as caught:
                    function((1, clauses))
                same(self, caught.exception.most, 12)

    def test_just_at_the_bound(self):
        same(self, all_cores((1, (NEVER,) * 12)), [(index,) for index in range(12)])
        same(self, [all_cores((1, (ZERO,) * 12)), least_cores((1, (ZERO,) * 12))], [[], []])
        same(self, len(all_cores((1, (ZERO, UNIT) * 6))), 36)

    def test_has_model_of_any_book(self):
        for book in ((0, ()), (1, (EVER,) * 24), (12, ()), (12, ((((11,), 1),),) * 13)):
            with self.assertRaises(HasModel) as caught:
                needed_clauses(book)
            same(self, all([plain_keeps(clause, caught.exception.bits) for clause in book[1]]), True)
            same(self, len(caught.exception.bits), book[0])


class TestBounds(unittest.TestCase):
    def check(self, book):
        core = steady(self, core_of, book)
        same(self, [steady(self, is_core, book, core), plain_models(clauses_of(book, core))], [True, []])
        for index in (core[0], core[len(core) // 2], core[-1]):
            rest = tuple([other for other in core if other != index])
            self.assertTrue(plain_models(clauses_of(book, rest)))
            same(self, is_core(book, rest), False)
        paper = steady(self, core_paper, book, core)
        same(self, refutes(book, paper), True)
        same(self, sorted(set([reason[1] for _, reason in paper if reason[0] == "clause"])), list(core))
        for index in steady(self, needed_clauses, book):
            self.assertIn(index, core)

    def test_books_without_a_model(self):
        for seed in range(3):
            self.check(crowded_book(seed, 12, 24))
            book = whole_book(seed, 12, 24)
            self.check(book)
            same(self, [core_of(book), needed_clauses(book)], [tuple(range(24)), tuple(range(24))])

    def test_books_with_a_model(self):
        book = great_book(81)
        same(self, [core_of(book), is_core(book, tuple(range(24)))], [None, False])
        with self.assertRaises(HasModel):
            needed_clauses(book)

    def test_all_lots_of_twelve_clauses(self):
        source = chance(82)
        book = (12, tuple([dressed(source, flat, 6) for flat in parted_flats(83, 12, 12)]))
        same(self, [steady(self, all_cores, book), least_cores(book)], [[tuple(range(12))], [tuple(range(12))]])
        many = (12, book[1][:-1])
        same(self, [all_cores(many), least_cores(many)], [[], []])
        crowded = crowded_book(84, 4, 12)
        same(self, steady(self, all_cores, crowded), plain_cores(crowded))
        rows = tuple([(((k,), 0),) for k in range(10)]) + (UNIT, ZERO)
        same(self, steady(self, all_cores, (12, rows)), [(0, 10), (10, 11)])


if __name__ == "__main__":
    unittest.main()
