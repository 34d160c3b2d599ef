"""The examples of the document, as they stand there, and those of README.md."""

import doctest
import unittest
from pathlib import Path

README = Path(__file__).resolve().parent.parent / "README.md"

STAGE_1 = r"""
>>> from eithersums.books import exchanged, missed, models_of, renumbered
>>> from eithersums.reader import read_book, read_paper
>>> from eithersums.sums import dependent_lot, independent_among, sum_by, together
>>> from eithersums.texts import show_book, show_flat
>>> book = read_book("unknowns 2\nclause 0+1=0 or 1=1 # two\nclause 0=0\n\nclause 1=0")
>>> book
(2, ((((0, 1), 0), ((1,), 1)), (((0,), 0),), (((1,), 0),)))
>>> [models_of(book), missed(book, (1, 0)), show_book(book).split("\n")[1], show_flat(())]
[[(0, 0)], [0, 1], 'clause 0+1=0 or 1=1', 'all']
>>> [together([(0, 1), (1, 2)]), sum_by([(0,), (0, 1), (2,)], (1,)), dependent_lot([(0,), (1,)])]
[(0, 2), (0, 1), None]
>>> [independent_among([(0,), (0,), (), (0, 1)]), renumbered(book, (1, 0))[1][1]]
[[0, 3], (((1,), 0),)]
>>> exchanged((2, ((((0,), 1),), (((0, 1), 0),))), 0, 1)
(2, ((((0, 1), 1),), (((0,), 0),)))
>>> read_paper(book, "0=1 by clause 1\nall by steps 0 0")
(((((0,), 1),), ('clause', 1)), ((), ('steps', 0, 0)))
"""

STAGE_2 = r"""
>>> from eithersums.flats import all_flats, bits_in, bits_many, flat_of, halves, least_flat, lies_in, meet, reduced, told_on
>>> from eithersums.misses import clause_for, follows_from, miss_of, says_same
>>> flat = flat_of([((1, 2), 1), ((0, 1), 1), ((0, 2), 0)])
>>> [flat, flat_of([((0,), 1), ((0,), 0)]), flat_of(()), bits_in(3, flat), bits_many(3, flat)]
[(((0, 2), 0), ((1, 2), 1)), None, (), [(0, 1, 0), (1, 0, 1)], 2]
>>> [reduced(flat, (0, 1, 2)), told_on(flat, (0, 1)), told_on(flat, (1,)), halves(flat, (0,))]
[(2,), 1, None, ((((0,), 0), ((1,), 1), ((2,), 0)), (((0,), 1), ((1,), 0), ((2,), 1)))]
>>> [lies_in(flat, (((0, 1), 1),)), meet(flat, (((1,), 0),)), least_flat([(0, 1, 0), (1, 0, 1)]) == flat, len(all_flats(2))]
[True, (((0,), 1), ((1,), 0), ((2,), 1)), True, 11]
>>> clause = (((0,), 0), ((0, 1), 1))
>>> [miss_of(clause), clause_for(miss_of(clause)), miss_of((((0,), 0), ((0,), 1))), miss_of(())]
[(((0,), 1), ((1,), 1)), (((0,), 0), ((1,), 0)), None, ()]
>>> [says_same(clause, (((0,), 0), ((1,), 0))), follows_from(clause, (((0,), 0),)), follows_from((((0,), 0),), clause)]
[True, True, False]
"""


class TestExamples(unittest.TestCase):
    def check(self, text):
        """Run the lines of a text as a session of their own."""
        told = []
        example = doctest.DocTestParser().get_doctest(text, {}, "example", None, 0)
        self.assertGreater(len(example.examples), 0)
        doctest.DocTestRunner(verbose=False).run(example, out=told.append)
        self.assertEqual("".join(told), "")

    def test_stage_1(self):
        self.check(STAGE_1)

    def test_stage_2(self):
        self.check(STAGE_2)

    def test_readme(self):
        self.check(README.read_text(encoding="utf-8"))


if __name__ == "__main__":
    unittest.main()
