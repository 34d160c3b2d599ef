"""[15]: texts."""

import unittest

from eithersums.texts import show_book, show_clause, show_flat, show_line, show_paper
from tests.helpers import HUGE, chance, great_book, lines_of, same, some_clause, steady

A = ((0,), 1)
B = ((0, 2), 1)
C = ((1, 10, 11), 0)


def plain_line(line):
    text = ""
    for unknown in line[0]:
        text += ("+" if text else "") + f"{unknown}"
    return text + "=" + ("1" if line[1] == 1 else "0")


class TestTexts(unittest.TestCase):
    def test_line(self):
        same(self, steady(self, show_line, B), "0+2=1")
        same(self, steady(self, show_line, A), "0=1")
        same(self, steady(self, show_line, C), "1+10+11=0")
        same(self, show_line(((HUGE,), 0)), "1" + "0" * 39 + "=0")
        for line in lines_of(4):
            same(self, steady(self, show_line, line), plain_line(line))

    def test_clause(self):
        same(self, steady(self, show_clause, ()), "clause never")
        same(self, steady(self, show_clause, (A,)), "clause 0=1")
        same(self, steady(self, show_clause, (A, B)), "clause 0=1 or 0+2=1")
        same(self, steady(self, show_clause, (((0,), 0), A, C)), "clause 0=0 or 0=1 or 1+10+11=0")

    def test_clauses_by_chance(self):
        source = chance(11)
        for _ in range(100):
            clause = some_clause(source, 12, 6)
            text = "clause " + plain_line(clause[0])
            for line in clause[1:]:
                text += " or " + plain_line(line)
            same(self, steady(self, show_clause, clause), text)

    def test_book(self):
        same(self, steady(self, show_book, (0, ())), "unknowns 0")
        same(self, steady(self, show_book, (0, ((),))), "unknowns 0\nclause never")
        same(self, steady(self, show_book, (12, ((A, B), (), (C,), (A, B)))),
             "unknowns 12\nclause 0=1 or 0+2=1\nclause never\nclause 1+10+11=0\nclause 0=1 or 0+2=1")
        same(self, steady(self, show_book, (HUGE, ())), "unknowns 1" + "0" * 39)

    def test_book_at_the_bounds(self):
        book = great_book(12)
        lines = show_book(book).split("\n")
        same(self, lines, ["unknowns 12"] + [show_clause(clause) for clause in book[1]])

    def test_flat(self):
        same(self, steady(self, show_flat, ()), "all")
        same(self, steady(self, show_flat, (A,)), "0=1")
        same(self, steady(self, show_flat, (B, ((1,), 0))), "0+2=1 and 1=0")
        same(self, steady(self, show_flat, (((0, 11), 0), ((1, 10), 1), ((2,), 1))), "0+11=0 and 1+10=1 and 2=1")

    def test_paper(self):
        same(self, steady(self, show_paper, (((), ("clause", 0)),)), "all by clause 0")
        same(self, steady(self, show_paper, (((A,), ("clause", 12)), ((), ("steps", 0, 0)))),
             "0=1 by clause 12\nall by steps 0 0")
        same(self, steady(self, show_paper, (((B, ((1,), 0)), ("clause", 3)), ((A,), ("clause", 1)),
                                             ((B, ((1,), 0)), ("steps", 1, 0)))),
             "0+2=1 and 1=0 by clause 3\n0=1 by clause 1\n0+2=1 and 1=0 by steps 1 0")

    def test_long_paper(self):
        paper = tuple([((A,), ("clause", k)) for k in range(150)] + [((), ("steps", k, 149)) for k in range(150)])
        lines = show_paper(paper).split("\n")
        same(self, lines, [f"0=1 by clause {k}" for k in range(150)] + [f"all by steps {k} 149" for k in range(150)])


if __name__ == "__main__":
    unittest.main()
