"""The examples of the document, as they stand there, and those of README.md."""

import doctest
import unittest
from pathlib import Path

README = Path(__file__).resolve().parent.parent / "README.md"

STAGE_1 = r"""
>>> from eithersums.books import exchanged, missed, models_of, renumbered
>>> from eithersums.reader import read_book, read_paper
>>> from eithersums.sums import dependent_lot, independent_among, sum_by, together
>>> from eithersums.texts import show_book, show_flat
>>> book = read_book("unknowns 2\nclause 0+1=0 or 1=1 # two\nclause 0=0\n\nclause 1=0")
>>> book
(2, ((((0, 1), 0), ((1,), 1)), (((0,), 0),), (((1,), 0),)))
>>> [models_of(book), missed(book, (1, 0)), show_book(book).split("\n")[1], show_flat(())]
[[(0, 0)], [0, 1], 'clause 0+1=0 or 1=1', 'all']
>>> [together([(0, 1), (1, 2)]), sum_by([(0,), (0, 1), (2,)], (1,)), dependent_lot([(0,), (1,)])]
[(0, 2), (0, 1), None]
>>> [independent_among([(0,), (0,), (), (0, 1)]), renumbered(book, (1, 0))[1][1]]
[[0, 3], (((1,), 0),)]
>>> exchanged((2, ((((0,), 1),), (((0, 1), 0),))), 0, 1)
(2, ((((0, 1), 1),), (((0,), 0),)))
>>> read_paper(book, "0=1 by clause 1\nall by steps 0 0")
(((((0,), 1),), ('clause', 1)), ((), ('steps', 0, 0)))
"""

STAGE_2 = r"""
>>> from eithersums.flats import all_flats, bits_in, bits_many, flat_of, halves, least_flat, lies_in, meet, reduced, told_on
>>> from eithersums.misses import clause_for, follows_from, miss_of, says_same
>>> flat = flat_of([((1, 2), 1), ((0, 1), 1), ((0, 2), 0)])
>>> [flat, flat_of([((0,), 1), ((0,), 0)]), flat_of(()), bits_in(3, flat), bits_many(3, flat)]
[(((0, 2), 0), ((1, 2), 1)), None, (), [(0, 1, 0), (1, 0, 1)], 2]
>>> [reduced(flat, (0, 1, 2)), told_on(flat, (0, 1)), told_on(flat, (1,)), halves(flat, (0,))]
[(2,), 1, None, ((((0,), 0), ((1,), 1), ((2,), 0)), (((0,), 1), ((1,), 0), ((2,), 1)))]
>>> [lies_in(flat, (((0, 1), 1),)), meet(flat, (((1,), 0),)), least_flat([(0, 1, 0), (1, 0, 1)]) == flat, len(all_flats(2))]
[True, (((0,), 1), ((1,), 0), ((2,), 1)), True, 11]
>>> clause = (((0,), 0), ((0, 1), 1))
>>> [miss_of(clause), clause_for(miss_of(clause)), miss_of((((0,), 0), ((0,), 1))), miss_of(())]
[(((0,), 1), ((1,), 1)), (((0,), 0), ((1,), 0)), None, ()]
>>> [says_same(clause, (((0,), 0), ((1,), 0))), follows_from(clause, (((0,), 0),)), follows_from((((0,), 0),), clause)]
[True, True, False]
"""

STAGE_3 = r"""
>>> from eithersums.papers import is_paper, joined, leant_clauses, lifted, missed_by, refutes, shortened, spread
>>> from eithersums.steps import cut_by, lies_in_both
>>> zero, one = (((0,), 0),), (((0,), 1),)
>>> [cut_by((), zero, one), cut_by(zero, zero, one), cut_by((), zero, (((1,), 1),)), lies_in_both((), zero, one)]
[(0,), (), None, True]
>>> cut_by((((0, 1), 0),), (((0,), 0), ((1,), 0)), one)
(1,)
>>> book = (2, ((((0,), 0), ((1,), 0)), (((0, 1), 0),), (((0,), 1),)))
>>> paper = ((one, ("clause", 0)), ((((0,), 1), ((1,), 1)), ("clause", 0)), ((((0, 1), 1),), ("clause", 1)))
>>> [is_paper(book, paper), is_paper(book, paper[1:])]
[False, True]
>>> paper = paper[1:] + ((one, ("steps", 0, 1)), (zero, ("clause", 2)), ((), ("steps", 2, 3)))
>>> [refutes(book, paper), leant_clauses(paper), missed_by(book, paper, (1, 0)), spread(book, paper)]
[True, (0, 1, 2), 1, [(0,), (1,), (0, 1), (2,), (0, 1, 2)]]
>>> small = shortened(paper[:2] + paper[3:4])
>>> [small, lifted(small, (0, 1, 2)) == small, joined(paper[:3], small, ())[3:]]
[(((((0,), 0),), ('clause', 2)),), True, (((((0,), 0),), ('clause', 2)), ((), ('steps', 2, 3)))]
"""

STAGE_4 = r"""
>>> from eithersums.cores import all_cores, core_of, core_paper, is_core, least_cores, needed_clauses
>>> from eithersums.papers import refutes
>>> from eithersums.solver import is_answer, least_model, model_with, models_many, solve
>>> book = (2, ((((0,), 1), ((1,), 1)), (((0,), 0),)))
>>> [least_model(book), models_many(book), solve(book), model_with(book, (((0, 1), 0),))]
[(0, 1), 1, ('model', (0, 1)), None]
>>> more = (2, book[1] + ((((0, 1), 0),), (((1,), 0),)))
>>> [solve(more)[0], refutes(more, solve(more)[1]), is_answer(more, ("model", (0, 1)))]
['paper', True, False]
>>> [all_cores(more), least_cores(more), needed_clauses(more), is_core(more, (0, 1, 2))]
[[(0, 1, 2), (0, 1, 3), (0, 2, 3)], [(0, 1, 2), (0, 1, 3), (0, 2, 3)], (0,), True]
>>> refutes(more, core_paper(more, (0, 1, 3)))
True
>>> [core_of(book), solve((0, ())), all_cores((1, ((), (((0,), 0), ((0,), 1)))))]
[None, ('model', ()), [(0,)]]
"""

STAGE_5 = r"""
>>> from eithersums.beyond import beyond_of, greatest_beyond, lots_beyond, rank_of_lot
>>> from eithersums.heart import deciding_paper, heart, heart_book, is_deciding, led_on
>>> a, b, c = ((0,), 1), ((1,), 0), ((0, 1), 1)
>>> book = (3, ((a,), (((0,), 0), ((2,), 1)), (a, b), (c,)))
>>> [rank_of_lot(book, (0, 2, 3)), beyond_of(book, (0, 2, 3)), beyond_of(book, (1,)), greatest_beyond(book)]
[2, 1, -1, 1]
>>> [lots_beyond(book), heart(book), is_deciding(book, ((0, 2, 3), {1: 1})), is_deciding(book, ((0, 2, 3), {1: 0}))]
[[(0, 1, 2, 3), (0, 2, 3)], (0, 2, 3), True, False]
>>> [deciding_paper(book), led_on(book, (1, 0, 0)), heart_book(book)[1]]
[((0, 2, 3), {1: 1}), (1, 0, 1), ((((0,), 1),), (((0,), 1), ((1,), 0)), (((0, 1), 1),))]
>>> [heart((2, ((a,), (b,)))), deciding_paper((2, ((a,), (b,)))), heart((0, ((),))), beyond_of((0, ((),)), (0,))]
[(), ((), {0: 0, 1: 0}), (0,), 1]
"""

STAGE_6 = r"""
>>> from eithersums.asks import best_tree, fewest_asks, finds, height_of, leaves_of, mean_asks, mean_of, paper_by
>>> from eithersums.liars import answers_by, is_liar, liar_of
>>> from eithersums.papers import refutes
>>> book = (2, ((((0,), 1), ((1,), 1)), (((0,), 0),), (((0,), 1), ((1,), 0))))
>>> tree = ("ask", (0,), ("ask", (1,), ("end", 0), ("end", 2)), ("end", 1))
>>> leaves_of(tree)
[(0, (((0,), 0), ((1,), 0))), (2, (((0,), 0), ((1,), 1))), (1, (((0,), 1),))]
>>> [finds(book, tree), finds(book, ("end", 1)), fewest_asks(book), height_of(best_tree(book))]
[True, False, 2, 2]
>>> [mean_of(book, tree), mean_asks(book), refutes(book, paper_by(book, tree))]
[(3, 2), (3, 2), True]
>>> liar = {(): 2, (((0,), 0),): 1, (((0, 1), 0),): 1, (((1,), 0),): 1}
>>> [is_liar(book, liar), is_liar(book, {(): 3}), liar_of(book)[()]]
[True, False, 2]
>>> [answers_by(book, liar, ((0, 1),)), answers_by(book, liar, ())]
[((0,), (((0, 1), 0),)), ((), ())]
"""

STAGE_7 = r"""
>>> from eithersums.apart import left_bits, left_in, meeting, models_from, models_apart
>>> from eithersums.clean import clean_rows, is_knot, is_tree_for, knot_of, parted, tree_for
>>> one, two, three = (((0,), 0),), (((0,), 1), ((1, 2), 0)), (((0,), 1), ((1, 2), 1))
>>> [meeting((3, (one, (((0, 1), 0),)))), models_apart((3, (one, two))), left_bits((3, (one, two)))]
[(0, 1), 2, (0, 0, 0)]
>>> [left_in((3, (one, two)), (((1,), 1),)), models_from((3, (one, two)), (), 5)]
[1, [(0, 0, 0), (0, 1, 1)]]
>>> book = (3, (one, two, three, (((0,), 0), ((0,), 1))))
>>> [clean_rows(book, (), (0, 1, 2)), clean_rows(book, (((0,), 0),), (1, 2)), knot_of(book)]
[[(0,)], [(1, 2)], None]
>>> parted(book, (), (0, 1, 2), (0,))
(((((0,), 0),), (1, 2)), ((((0,), 1),), (0,)))
>>> tree = ("ask", (0,), ("ask", (1, 2), ("end", 2), ("end", 1)), ("end", 0))
>>> [is_tree_for(book, tree), is_tree_for(book, ("ask", (1, 2), ("end", 2), ("end", 1))), tree_for((0, ((),)))]
[True, False, ('end', 0)]
>>> a, b, c = (((0,), 0), ((1,), 1)), (((1,), 0), ((2,), 1)), (((0,), 1), ((2,), 0))
>>> odd = (3, (a, b, c, (((0,), 0), ((1,), 0), ((2,), 0)), (((0,), 1), ((1,), 1), ((2,), 1))))
>>> [models_apart(odd), clean_rows(odd, (), (0, 1, 2, 3, 4)), is_knot(odd, ((), (0, 1, 2, 3, 4))), tree_for(odd)]
[0, [], True, None]
"""

STAGE_8 = r"""
>>> from eithersums.odd import clause_sums, full_many, is_odd
>>> from eithersums.orders import are_forms, failing_setting, flat_order, is_order
>>> from eithersums.rings import hanging, hangs_on, is_ring, shortest_ring, turned_by
>>> from eithersums.settings import is_full, solution_of, some_full
>>> told = (2, ((((0,), 0), ((0, 1), 1)), (((1,), 0),)))
>>> [flat_order(told), failing_setting(told), is_order(told, (0, 1)), are_forms(told, (1, 0), ((1,), (0,)))]
[(1, 0), None, False, True]
>>> [solution_of(told, (0, 0)), solution_of(told, (1, 0)), shortest_ring(told, (0, 0)), hanging(told, (0, 0), 0, 1)]
[(0, 0), (1, 0), None, (1,)]
>>> both = (2, ((((0,), 0), ((0, 1), 0)), (((0, 1), 1), ((1,), 0))))
>>> [flat_order(both), failing_setting(both), hangs_on(both, (0, 1))]
[None, (1, 0), ((1,), (0,))]
>>> ring = shortest_ring(both, (0, 1))
>>> [len(ring), is_ring(both, (0, 1), ring), turned_by(both, (0, 1), ring), is_full(both, (1, 0))]
[2, True, (1, 0), False]
>>> [clause_sums(both), is_odd(both), full_many(both), some_full((2, ((((0,), 0),), (((0,), 1),))))]
[((1,), (0,)), True, 3, ('few', (0, 1))]
"""

STAGE_9 = r"""
>>> from eithersums.added import addable_rows, struck_lots
>>> from eithersums.sure import parting_models, spread_models, sure_along, sure_bit, sure_flat
>>> book = (2, ((((0,), 0), ((0, 1), 1)), (((1,), 1),)))
>>> [sure_flat(book), sure_bit(book, (0,)), sure_bit(book, (1,)), parting_models(book, (0, 1))]
[(((0,), 0), ((1,), 1)), 0, 1, None]
>>> other = (2, ((((0,), 0), ((0, 1), 0)), (((1,), 1),)))
>>> [sure_flat(other), sure_bit(other, (0,)), parting_models(other, (0,)), sure_along(other, (1, 0)), sure_along(book, (1, 0))]
[(((1,), 1),), None, ((0, 1), (1, 1)), (0,), (0, 1)]
>>> [sorted(spread_models(other)), addable_rows(other, 0), addable_rows(other, 1)]
[[(0, 1), (1, 1)], [(0,), (0, 1)], [(1,)]]
>>> struck_lots((2, ((((0,), 0), ((0, 1), 0)), (((0, 1), 1), ((1,), 1)))))
[((0, 1),), ((1, 0),)]
"""

STAGE_10 = r"""
>>> from eithersums.desk import Desk
>>> from eithersums.live import Live
>>> live = Live((2, ((((0, 1), 0),),)))
>>> [live.bind(("model",)), live.bind(("sure", (0, 1), 0)), live.add((((0,), 1),)), live.answer(), live.weighs((((1,), 1),))]
[None, None, None, ('model', (1, 1)), None]
>>> [live.back(), live.weighs((((1,), 1),)), live.again(), live.free(1), live.duties_now(), live == live.twin()]
[None, (0, 0), None, ('sure', (0, 1), 0), [('model',)], True]
>>> desk = Desk("unknowns 1\nclause 0=0")
>>> [desk.execute(line) for line in ["bind full", "add clause 0=1", "weigh clause 0=0", "free 0", "add clause 0=1", "models", "heart"]]
[['done'], ['refused'], ['said'], ['done'], ['done'], ['none'], ['0 1']]
>>> [desk.execute(line) for line in ["duties", "bind sure 0=0", "drop 1", "bind sure 0=0 # now", "duties"]]
[[], ['refused'], ['done'], ['done'], ['sure 0=0']]
"""


class TestExamples(unittest.TestCase):
    def check(self, text):
        """Run the lines of a text as a session of their own."""
        told = []
        example = doctest.DocTestParser().get_doctest(text, {}, "example", None, 0)
        self.assertGreater(len(example.examples), 0)
        doctest.DocTestRunner(verbose=False).run(example, out=told.append)
        self.assertEqual("".join(told), "")

    def test_stage_1(self):
        self.check(STAGE_1)

    def test_stage_2(self):
        self.check(STAGE_2)

    def test_stage_3(self):
        self.check(STAGE_3)

    def test_stage_4(self):
        self.check(STAGE_4)

    def test_stage_5(self):
        self.check(STAGE_5)

    def test_stage_6(self):
        self.check(STAGE_6)

    def test_stage_7(self):
        self.check(STAGE_7)

    def test_stage_8(self):
        self.check(STAGE_8)

    def test_stage_9(self):
        self.check(STAGE_9)

    def test_stage_10(self):
        self.check(STAGE_10)

    def test_readme(self):
        self.check(README.read_text(encoding="utf-8"))


if __name__ == "__main__":
    unittest.main()
