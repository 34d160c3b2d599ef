"""The examples of the document, as they stand there."""

import doctest
import unittest

SUMS_AND_BOOKS = """
>>> from eithersums.books import exchanged, missed, models_of, renumbered
>>> from eithersums.sums import dependent_lot, independent_among, sum_by, together
>>> book = (2, ((((0, 1), 0), ((1,), 1)), (((0,), 0),), (((1,), 0),)))
>>> book
(2, ((((0, 1), 0), ((1,), 1)), (((0,), 0),), (((1,), 0),)))
>>> [models_of(book), missed(book, (1, 0))]
[[(0, 0)], [0, 1]]
>>> [together([(0, 1), (1, 2)]), sum_by([(0,), (0, 1), (2,)], (1,)), dependent_lot([(0,), (1,)])]
[(0, 2), (0, 1), None]
>>> [independent_among([(0,), (0,), (), (0, 1)]), renumbered(book, (1, 0))[1][1]]
[[0, 3], (((1,), 0),)]
>>> exchanged((2, ((((0,), 1),), (((0, 1), 0),))), 0, 1)
(2, ((((0, 1), 1),), (((0,), 0),)))
"""


class TestExamples(unittest.TestCase):
    def check(self, text):
        """Run the lines of a text as a session of their own."""
        told = []
        example = doctest.DocTestParser().get_doctest(text, {}, "example", None, 0)
        self.assertGreater(len(example.examples), 0)
        doctest.DocTestRunner(verbose=False).run(example, out=told.append)
        self.assertEqual("".join(told), "")

    def test_sums_and_books(self):
        self.check(SUMS_AND_BOOKS)


if __name__ == "__main__":
    unittest.main()
