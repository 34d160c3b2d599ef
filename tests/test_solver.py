"""[21]: answers, against all bits; [5]: a book has a model exactly if no paper refutes it."""

import unittest

from eithersums.papers import refutes
from eithersums.solver import is_answer, least_model, model_with, models_many, solve
from tests.helpers import (any_values, chance, crowded_book, full_clause, great_book, lines_of, plain_holds, plain_models,
                           same, some_book, some_row, steady, whole_book)

EVER, NEVER = (((0,), 0), ((0,), 1)), ()


def small_books():
    """Return books of few unknowns, with clauses that miss nothing and all, and with clauses twice."""
    found = [(0, ()), (0, ((),)), (0, ((), ())), (1, ()), (1, ((),)), (1, (EVER,)), (1, (EVER, NEVER, EVER)), (3, ())]
    found += [(1, ((((0,), 0),), (((0,), 1),))), (1, ((((0,), 1),), (((0,), 1),))), (2, (EVER, (((0, 1), 1),)))]
    for seed in range(120):
        many, clauses = some_book(seed, 1 + seed % 5, seed % 11, 3)
        if seed % 3 == 0:
            clauses += clauses[:2] + ((EVER,) if seed % 2 else (EVER, NEVER))
        found.append((many, clauses))
    return found


class TestSolve(unittest.TestCase):
    def test_solve(self):
        kinds = {"model": 0, "paper": 0}
        for book in small_books():
            models = plain_models(book)
            kind, shown = steady(self, solve, book)
            kinds[kind] += 1
            same(self, kind, "model" if models else "paper", book)
            if models:
                self.assertIn(shown, models)
                same(self, [type(bit) for bit in shown], [int] * book[0])
            else:
                same(self, refutes(book, shown), True, book)
            same(self, steady(self, is_answer, book, (kind, shown)), True)
        self.assertGreater(min(kinds.values()), 30)

    def test_least_model_and_number(self):
        for book in small_books():
            models = plain_models(book)
            same(self, steady(self, least_model, book), models[0] if models else None, book)
            same(self, steady(self, models_many, book), len(models), book)

    def test_model_with(self):
        source = chance(71)
        for book in small_books():
            models = plain_models(book)
            sets = [()] + [(line,) for line in lines_of(min(book[0], 3))]
            for count in (2, 3, 4, 5) if book[0] else ():
                sets.append(tuple([(some_row(source, book[0]), source.randrange(2)) for _ in range(count)]))
            for lines in sets:
                found = steady(self, model_with, book, lines)
                wanted = [bits for bits in models if all(plain_holds(line, bits) for line in lines)]
                self.assertTrue(found in wanted if wanted else found is None, (book, lines))

    def test_edges(self):
        same(self, [solve((0, ())), solve((0, ((),)))], [("model", ()), ("paper", (((), ("clause", 0)),))])
        same(self, [least_model((0, ())), least_model((0, ((),))), least_model((2, ()))], [(), None, (0, 0)])
        same(self, [models_many((0, ())), models_many((0, ((),))), models_many((3, ())), models_many((3, ((),)))],
             [1, 0, 8, 0])
        same(self, [model_with((0, ()), ()), model_with((0, ((),)), ()), model_with((1, ()), (((0,), 1),))],
             [(), None, (1,)])
        contrary = (((0,), 0), ((0, 1), 1), ((1,), 0))
        same(self, [model_with((2, ()), contrary), model_with((2, ()), contrary[:2] * 2)], [None, (0, 1)])
        same(self, [models_many((2, (EVER,))), models_many((1, (EVER, NEVER)))], [4, 0])


class TestIsAnswer(unittest.TestCase):
    def test_models(self):
        book = (2, ((((0,), 1), ((1,), 1)), EVER))
        told = [is_answer(book, ("model", bits)) for bits in ((0, 0), (0, 1), (1, 0), (1, 1))]
        same(self, told, [False, True, True, True])
        wrong = [(True, 1), (1, False), [0, 1], (0, 1, 0), (1,), (), None, (0, 2), (-1, 1), "01", ((0, 1),), (0, None)]
        for bits in wrong:
            same(self, is_answer(book, ("model", bits)), False, bits)
        for thing in (["model", (0, 1)], ("model", (0, 1), 0), ("model",), ("Model", (0, 1)), ("paper", (0, 1)), (0, 1),
                      ((0, 1), "model"), ("", (0, 1)), (None, (0, 1)), (("model",), (0, 1)), (["model"], (0, 1))):
            same(self, is_answer(book, thing), False, thing)
        same(self, [is_answer((0, ()), ("model", ())), is_answer((0, ((),)), ("model", ()))], [True, False])
        same(self, [is_answer((0, ()), ("model", [])), is_answer((0, ()), ("paper", ()))], [False, False])

    def test_papers(self):
        book = (2, ((((0,), 0), ((1,), 0)), (((0, 1), 0),), (((0,), 1),)))
        paper = solve(book)[1]
        same(self, is_answer(book, ("paper", paper)), True)
        for thing in (("paper", paper[:-1]), ("paper", list(paper)), ("model", paper), ["paper", paper], ("paper",),
                      ("paper", paper, 0), ("papers", paper), ("paper", ()), ("paper", None), (paper, "paper"),
                      ("paper", (paper,)), ("paper", paper + paper[:1]), ("paper", paper[:-1] + (list(paper[-1]),))):
            same(self, is_answer(book, thing), False, thing)
        same(self, is_answer((2, book[1][1:]), ("paper", paper)), False)
        for bits in ((0, 0), (0, 1), (1, 0), (1, 1)):
            same(self, is_answer(book, ("model", bits)), False)

    def test_a_paper_of_any_length(self):
        book = (1, ((((0,), 0),), (((0,), 1),)))
        paper = ((((((0,), 1),), ("clause", 0))), ((((0,), 0),), ("clause", 1))) * 500 + (((), ("steps", 998, 999)),)
        same(self, is_answer(book, ("paper", paper)), True)
        same(self, is_answer(book, ("paper", paper[:-1] + (((), ("steps", 998, 998)),))), False)

    def test_any_values(self):
        for book in ((0, ()), (1, ((((0,), 0),),)), (3, ((((1,), 0),),))):
            for value in any_values():
                for thing in (value, (value,), (value, ()), ("model", value), ("paper", value), ("model", (value,)),
                              ("paper", (value,)), ("paper", ((value, ("clause", 0)),)), ("paper", (((), value),)),
                              ["model", value], (value, value)):
                    fits = thing == ("model", ()) and book[0] == 0 or repr(thing) == "('model', (0,))" and book[0] == 1
                    same(self, is_answer(book, thing), fits, (book, thing))


class TestBounds(unittest.TestCase):
    def test_books_with_a_model(self):
        for seed in range(3):
            book = great_book(seed)
            models = plain_models(book)
            same(self, [steady(self, least_model, book), steady(self, models_many, book)], [models[0], len(models)])
            same(self, is_answer(book, steady(self, solve, book)), True)
            same(self, model_with(book, (((11,), 1), ((0, 11), 0))) in models, True)

    def test_books_with_one_model(self):
        for seed in range(3):
            many, clauses = whole_book(seed, 12, 24)
            for index in (0, 11, 23):
                book = (many, clauses[:index] + clauses[index + 1:])
                models = plain_models(book)
                same(self, [least_model(book), models_many(book), solve(book)[0]], [models[0], len(models), "model"])
                same(self, model_with(book, tuple([((k,), bit) for k, bit in enumerate(models[-1])])), models[-1])

    def test_books_without_a_model(self):
        for seed in range(6):
            for book in (whole_book(seed, 12, 24), crowded_book(seed, 12, 24)):
                kind, paper = steady(self, solve, book)
                same(self, [kind, refutes(book, paper), models_many(book)], ["paper", True, 0])
                same(self, [least_model(book), model_with(book, (((3,), 1),))], [None, None])

    def test_beyond_the_bounds(self):
        source = chance(72)
        book = (14, tuple([full_clause(source, 14, 7) for _ in range(28)]))
        bits = least_model(book)
        same(self, is_answer(book, ("model", bits)), True)
        lines = tuple([((k,), bit) for k, bit in enumerate(bits)])
        same(self, [model_with(book, lines), models_many((14, ())), models_many((14, book[1][:1])) < 1 << 14],
             [bits, 1 << 14, True])


if __name__ == "__main__":
    unittest.main()
