"""[35]: a book under change, against a plain model of the book, the duties and what can be taken back."""

import time
import unittest

from eithersums.errors import Broken, Nothing, Wrong
from eithersums.live import Live
from eithersums.papers import refutes
from eithersums.solver import is_answer, solve
from tests.helpers import (HUGE, any_values, chance, full_clause, great_book, is_strict_book, is_strict_clause,
                           is_strict_duty, ordered_book, plain_keeps, plain_models, same, some_book, some_clause, some_row,
                           spoil, variants, whole_book)
from tests.plain_live import FULL, MODEL, Plain, shows

ZERO, UNIT, EVER, NEVER = (((0,), 0),), (((0,), 1),), (((0,), 0), ((0,), 1)), ()


def state_of(live):
    return (live.book_now(), tuple(live.duties_now()))


def steps_many(step):
    """Do a step, back or again, as often as can be; return the number."""
    count = 0
    while True:
        try:
            step()
        except Nothing:
            return count
        count += 1


def history(live):
    """Return the state of a Live, how many states back leads to, and all states, those that again leads to last."""
    twin = live.twin()
    found = [state_of(twin), steps_many(twin.back)]
    states = [state_of(twin)]
    for _ in range(steps_many(twin.twin().again)):
        twin.again()
        states.append(state_of(twin))
    return [*found, states]


class TestPlain(unittest.TestCase):
    """Long rows of drawn calls, against the plain model."""

    def drawn(self, source, plain):
        """Return a call: its name and what it is given."""
        (many, clauses), duties = plain.now()
        names = ["add"] * 6 + ["bind"] * 4 + ["back"] * 3 + ["again"] * 3 + ["free"] + ["drop"] * 2
        name = source.choice(names)
        if name == "drop" and not clauses or name == "free" and not duties or len(clauses) > 6 and name == "add":
            name = "back"
        if name == "add":
            return name, some_clause(source, many, 3) if source.random() < 0.95 else source.choice((NEVER, EVER))
        if name == "drop":
            return name, source.randrange(len(clauses))
        if name == "free":
            return name, source.randrange(len(duties))
        if name == "bind":
            return name, source.choice((MODEL, FULL, ("sure", some_row(source, many), source.randrange(2))))
        return name, None

    def follow(self, live, plain, name, given):
        """Do a call with both, and check that both do the same; return whether the call was done."""
        if name in ("back", "again"):
            if not getattr(plain, name)():
                self.assertRaises(Nothing, getattr(live, name))
                return False
            same(self, getattr(live, name)(), None)
            return True
        book, duties = plain.changed(name, given)
        broken = plain.broken(book, duties)
        if broken is None:
            same(self, getattr(live, name)(given), plain.now()[1][given] if name == "free" else None)
            plain.go((book, duties))
            return True
        with self.assertRaises(Broken) as caught:
            getattr(live, name)(given)
        same(self, caught.exception.index, broken)
        self.assertTrue(shows(book, duties[broken], caught.exception.shown), (book, duties, caught.exception.shown))
        if name == "bind":
            same(self, broken, len(plain.now()[1]))
        return False

    def test_long_rows(self):
        done = {}
        for seed in range(24):
            source = chance(seed)
            book = ordered_book(seed, 3, 2) if seed % 2 else some_book(seed, 1 + seed % 4, seed % 4, 3)
            live, plain = Live(book), Plain(book)
            for step in range(80):
                name, given = self.drawn(source, plain)
                found = self.follow(live, plain, name, given)
                done[name, found] = done.get((name, found), 0) + 1
                same(self, state_of(live), plain.now())
                if step % 8 == 0 or not found:
                    same(self, history(live), plain.history(), (seed, step))
            self.check_questions(live, plain, source)
        for name in ("add", "drop", "bind", "back", "again"):
            self.assertGreater(min(done.get((name, True), 0), done.get((name, False), 0)), 10, done)
        self.assertGreater(done["free", True], 20)

    def check_questions(self, live, plain, source):
        book = plain.now()[0]
        models = plain_models(book)
        before = history(live)
        same(self, [is_answer(book, live.answer()), live.answer()[0] == "model"], [True, models != []])
        for clause in [NEVER, EVER if book[0] else NEVER] + [some_clause(source, book[0], 3) for _ in range(20)]:
            missing = [bits for bits in models if not plain_keeps(clause, bits)]
            found = live.weighs(clause)
            self.assertTrue(found in missing if missing else found is None, (book, clause, found))
            same(self, live.weighs(clause), found)
        same(self, history(live), before)


class TestDuties(unittest.TestCase):
    def refused(self, live, index, kind, name, given):
        """Check that a call is refused for a duty, that this is shown, and that nothing has changed."""
        before = history(live)
        plain = Plain(live.book_now())
        plain.states[0] = state_of(live)
        with self.assertRaises(Broken) as caught:
            getattr(live, name)(given)
        book, duties = plain.changed(name, given)
        same(self, [caught.exception.index, duties[index][0]], [index, kind])
        self.assertTrue(shows(book, duties[index], caught.exception.shown))
        same(self, history(live), before)
        return caught.exception.shown

    def test_model(self):
        live = Live((2, (ZERO,)))
        live.bind(MODEL)
        shown = self.refused(live, 0, "model", "add", UNIT)
        self.assertTrue(refutes((2, (ZERO, UNIT)), shown))
        self.refused(live, 0, "model", "add", NEVER)
        live.free(0)
        live.add(UNIT)
        self.refused(live, 0, "model", "bind", MODEL)

    def test_sure(self):
        live = Live((2, (ZERO, (((0, 1), 1),))))
        for duty in (("sure", (0,), 0), ("sure", (1,), 1), ("sure", (0, 1), 1)):
            live.bind(duty)
        same(self, self.refused(live, 0, "sure", "drop", 0), (1, 0))
        same(self, self.refused(live, 1, "sure", "drop", 1), (0, 0))
        self.assertTrue(refutes((2, (ZERO, (((0, 1), 1),), UNIT)), self.refused(live, 0, "sure", "add", UNIT)))
        same(self, self.refused(live, 3, "sure", "bind", ("sure", (0,), 1)), (0, 1))
        live.free(0)
        same(self, self.refused(live, 0, "sure", "drop", 0), (1, 0))

    def test_full(self):
        live = Live((2, ((((0,), 0), ((0, 1), 0)), (((1,), 1),))))
        live.bind(FULL)
        same(self, self.refused(live, 0, "full", "drop", 0), None)
        same(self, self.refused(live, 0, "full", "add", ZERO), None)
        live.free(0)
        live.add((((0,), 0), ((1,), 0)))
        same(self, self.refused(live, 0, "full", "bind", FULL), None)
        live.drop(1)
        # Tight again, but the same row can be chosen in both clauses.
        self.assertIn(self.refused(live, 0, "full", "bind", FULL), [(0, 0)])

    def test_full_of_lines_that_lack(self):
        for book in ((0, ((),)), (1, ((),)), (1, ()), (2, (ZERO, ())), (1, (ZERO, UNIT))):
            same(self, self.refused(Live(book), 0, "full", "bind", FULL), None)
        same(self, self.refused(Live((2, (ZERO, UNIT))), 0, "full", "bind", FULL), (0, 0))

    def test_the_least_index(self):
        live = Live((2, (ZERO, (((1,), 1),))))
        for duty in (FULL, MODEL, ("sure", (0,), 0), FULL):
            live.bind(duty)
        self.refused(live, 0, "full", "drop", 0)
        live.free(0)
        self.refused(live, 0, "model", "add", UNIT)
        self.refused(live, 1, "sure", "drop", 0)
        self.refused(live, 2, "full", "drop", 1)
        live.free(0)
        self.refused(live, 0, "sure", "add", UNIT)

    def test_bound_twice_and_freed_amid_others(self):
        live = Live((1, (ZERO,)))
        for duty in (MODEL, FULL, MODEL, ("sure", (0,), 0), MODEL):
            same(self, live.bind(duty), None)
        same(self, live.free(1), FULL)
        same(self, live.duties_now(), [MODEL, MODEL, ("sure", (0,), 0), MODEL])
        same(self, [live.free(2), live.free(0), live.duties_now()], [("sure", (0,), 0), MODEL, [MODEL, MODEL]])
        live.back()
        live.back()
        same(self, live.duties_now(), [MODEL, MODEL, ("sure", (0,), 0), MODEL])


class TestBackAndAgain(unittest.TestCase):
    def test_both_ends(self):
        live = Live((1, ()))
        for name in ("back", "again"):
            self.assertRaises(Nothing, getattr(live, name))
        live.add(ZERO)
        live.bind(MODEL)
        self.assertRaises(Nothing, live.again)
        for _ in range(3):
            same(self, [live.back(), live.back(), state_of(live)], [None, None, ((1, ()), ())])
            self.assertRaises(Nothing, live.back)
            same(self, [live.again(), live.again(), state_of(live)], [None, None, ((1, (ZERO,)), (MODEL,))])
            self.assertRaises(Nothing, live.again)
        same(self, state_of(live), ((1, (ZERO,)), (MODEL,)))

    def test_something_else_done_since(self):
        changes = (("add", UNIT), ("drop", 0), ("bind", MODEL), ("free", 0))
        for name, given in changes:
            live = Live((1, (EVER,)))
            live.bind(MODEL)
            live.add(ZERO)
            live.back()
            getattr(live, name)(given)
            self.assertRaises(Nothing, live.again)
            live.back()
            same(self, state_of(live), ((1, (EVER,)), (MODEL,)))
            live.again()
            self.assertRaises(Nothing, live.again)

    def test_again_is_still_there(self):
        """Behind a refused call, a question, and again itself, the rest can be done again."""
        live = Live((1, ()))
        for clause in (ZERO, EVER, ZERO):
            live.add(clause)
        live.back()
        live.back()
        live.back()
        for call in (lambda: live.add([]), lambda: live.drop(0), lambda: live.bind(FULL), lambda: live.free(0), live.back):
            self.assertRaises((Wrong, Broken, Nothing), call)
        live.answer(), live.weighs(ZERO), live.book_now(), live.duties_now().append(1), live.twin().add(UNIT)
        live.again()
        live.again()
        same(self, live.book_now(), (1, (ZERO, EVER)))
        live.back()
        live.again()
        live.again()
        same(self, live.book_now(), (1, (ZERO, EVER, ZERO)))
        self.assertRaises(Nothing, live.again)


class TestTwin(unittest.TestCase):
    def test_led_apart(self):
        live = Live((1, ()))
        live.add(ZERO)
        live.bind(MODEL)
        live.back()
        twin = live.twin()
        same(self, [live == twin, twin == live, live is twin, history(live) == history(twin)], [True, True, False, True])
        before = history(live)
        twin.add(EVER)
        twin.bind(MODEL)
        twin.back()
        same(self, [history(live) == before, live == twin], [True, False])
        live.again()
        live.back()
        live.back()
        same(self, [twin.book_now(), live.book_now(), history(twin)[1]], [(1, (ZERO, EVER)), (1, ()), 2])
        again = live.twin()
        again.again()
        again.again()
        same(self, [state_of(again), state_of(live)], [((1, (ZERO,)), (MODEL,)), ((1, ()), ())])

    def test_equal(self):
        one, other = Live((2, (ZERO,))), Live((2, ()))
        self.assertFalse(one == other)
        self.assertTrue(one != other)
        other.add(ZERO)
        self.assertTrue(one == other)
        self.assertFalse(one != other)
        for live, duties in ((one, (MODEL, ("sure", (0,), 0))), (other, (("sure", (0,), 0), MODEL))):
            for duty in duties:
                live.bind(duty)
        self.assertFalse(one == other)
        other.free(0)
        other.bind(("sure", (0,), 0))
        self.assertTrue(one == other)
        self.assertFalse(Live((2, (ZERO, UNIT))) == Live((2, (UNIT, ZERO))))
        self.assertFalse(Live((1, (ZERO,))) == Live((2, (ZERO,))))
        self.assertFalse(Live((0, ())) == Live((1, ())))

    def test_equal_to_nothing_else(self):
        live = Live((1, ()))
        for value in [*any_values(), live.book_now(), ((1, ()), ()), [live], (live,)]:
            if not isinstance(value, Live):
                self.assertFalse(live == value, value)
                self.assertFalse(value == live, value)
                self.assertTrue(live != value, value)

    def test_equal_ones_show_the_same(self):
        for seed in range(12):
            source = chance(seed)
            book = ordered_book(seed, 3, 2)
            one, other = Live(book), Live((3, ()))
            for duty in (FULL, ("sure", (0,), 0), MODEL):
                try:
                    one.bind(duty)
                except Broken:
                    pass
            for clause in book[1]:
                other.add(some_clause(source, 3, 2))
                other.back()
                other.add(clause)
            for duty in one.duties_now():
                other.bind(MODEL)
                other.free(len(other.duties_now()) - 1)
                other.bind(duty)
            self.assertTrue(one == other)
            for _ in range(20):
                clause = some_clause(source, 3, 2)
                same(self, [one.answer(), one.weighs(clause)], [other.answer(), other.weighs(clause)])
                same(self, self.shown(one.twin(), "add", clause), self.shown(other.twin(), "add", clause))
            for index in range(3):
                same(self, self.shown(one.twin(), "drop", index), self.shown(other.twin(), "drop", index))

    def shown(self, live, name, given):
        try:
            return getattr(live, name)(given)
        except Broken as error:
            return (error.index, error.shown)


class TestWrong(unittest.TestCase):
    def wrong(self, call, value):
        with self.assertRaises(Wrong, msg=value) as caught:
            call(value)
        same(self, caught.exception.place, 0)

    def test_books(self):
        book = (2, (ZERO, (((0,), 0), ((0, 1), 1)), ()))
        for value in [book, *variants(book), *any_values(), HUGE, (HUGE, ()), (-1, ()), (2, ((((2,), 0),),)), (True, (ZERO,))]:
            if is_strict_book(value):
                same(self, Live(value).book_now(), value)
            else:
                self.wrong(Live, value)

    def lives(self):
        """Return a Live with duties, and things to be taken back and done again."""
        live = Live((2, ((((0, 1), 1),),)))
        for clause in (ZERO, EVER, (((1,), 1),)):
            live.add(clause)
        for duty in (MODEL, ("sure", (0,), 0), MODEL):
            live.bind(duty)
        live.back()
        return live

    def test_clauses_and_duties(self):
        live = self.lives()
        before, answer = history(live), live.answer()
        clause = (((0,), 0), ((0, 1), 1))
        more = [(((2,), 0),), (((0, 1), 1), ((0,), 0)), (((0,), 0), ((0,), 0)), (((1, 0), 0),), (((), 0),), (((0,), 2),),
                (((0,), True),), (((False,), 0),), [((0,), 0)], (((0,), 0, 0),)]
        for value in [*variants(clause), *any_values(), *more]:
            if not is_strict_clause(2, value):
                self.wrong(live.add, value)
                self.wrong(live.weighs, value)
        more = [("model", 0), ("full", ()), ("sure",), ("sure", (0,)), ("sure", (0,), 0, 0), ("sure", (), 0), ("sure", (2,), 0),
                ("sure", (1, 0), 0), ("sure", (0,), 2), ("sure", (0,), False), ("sure", [0], 0), ("MODEL",), ("",), (), "model",
                ["model"], "full", ("sure", ((0,), 0)), ((("model",),)), ("mode",), ("sure", (True,), 0)]
        for value in [*variants(MODEL), *variants(FULL), *variants(("sure", (0, 1), 1)), *any_values(), *more]:
            if not is_strict_duty(2, value):
                self.wrong(live.bind, value)
        same(self, [history(live), live.answer()], [before, answer])

    def test_indexes(self):
        live = self.lives()
        before = history(live)
        for call, count in ((live.drop, 4), (live.free, 2)):
            for value in [-1, count, count + 1, HUGE, -HUGE, True, False, "0", (0,), [0], None, *any_values()]:
                if type(value) is not int or not 0 <= value < count:
                    self.wrong(call, value)
        same(self, history(live), before)
        for value in (0, -1, None):
            self.wrong(Live((1, ())).drop, value)
            self.wrong(Live((1, (ZERO,))).free, value)

    def test_wrong_ahead_of_broken(self):
        live = Live((1, (ZERO,)))
        for duty in (MODEL, FULL, ("sure", (0,), 0)):
            live.bind(duty)
        for value in ([], (((1,), 0),), (((0,), 1), ((0,), 0)), [((0,), 1)]):
            self.wrong(live.add, value)
        self.wrong(live.drop, 1)
        self.wrong(live.bind, ("sure", (1,), 1))

    def test_no_bounds_are_asked(self):
        """The bounds of [4] are not checked."""
        many = (30, ((tuple([((k,), 0) for k in range(30)])),) * 40)
        live = Live(many)
        live.add(ZERO)
        live.back()
        same(self, [live.book_now() == many, Live((HUGE, ())).book_now()], [True, (HUGE, ())])
        live = Live((14, ()))
        live.bind(MODEL)
        same(self, live.weighs((((13,), 0),))[13], 1)


class TestNew(unittest.TestCase):
    def test_what_is_returned_is_new(self):
        live = Live((1, (ZERO,)))
        live.bind(MODEL)
        for _ in range(2):
            found = live.duties_now()
            same(self, found, [MODEL])
            spoil(found)
            found.clear()
        same(self, [live.book_now(), live.duties_now(), live.answer()], [(1, (ZERO,)), [MODEL], ("model", (0,))])


class TestBounds(unittest.TestCase):
    def test_great_books(self):
        begun = time.time()
        for seed, book in enumerate((great_book(2), whole_book(2, 12, 24), (12, great_book(4)[1][:23]))):
            source = chance(seed)
            live = Live(book)
            kind = live.answer()[0]
            same(self, is_answer(book, live.answer()), True)
            if kind == "paper":
                self.assertRaises(Broken, live.bind, MODEL)
                live.drop(5)
            live.bind(MODEL)
            for _ in range(20):
                clause = full_clause(source, 12, 1 + seed)
                missed = live.weighs(clause)
                row, bit = clause[0]
                for call, given in ((live.add, clause), (live.bind, ("sure", row, bit))):
                    try:
                        call(given)
                    except Broken as error:
                        self.assertLessEqual(error.index, len(live.duties_now()))
                if missed is not None:
                    same(self, plain_keeps(clause, missed), False)
            steps_many(live.back)
            same(self, state_of(live), (book, ()))
        self.assertLess(time.time() - begun, 60)

    def test_great_tight_books(self):
        begun = time.time()
        for seed in range(3):
            book = ordered_book(seed, 12, 6)
            live = Live(book)
            live.bind(FULL)
            live.bind(MODEL)
            for index in range(12):
                with self.assertRaises(Broken) as caught:
                    live.drop(index)
                same(self, [caught.exception.index, caught.exception.shown], [0, None])
            with self.assertRaises(Broken) as caught:
                Live((12, tuple([full_clause(chance(seed + k), 12, 6) for k in range(12)]))).bind(FULL)
            same(self, len(caught.exception.shown), 12)
        self.assertLess(time.time() - begun, 30)

    def test_many_changes(self):
        begun = time.time()
        live = Live((12, ()))
        live.bind(MODEL)
        for k in range(24):
            live.add(tuple(sorted([((k % 12,), 0), (tuple(range(12)), 1)])))
        for _ in range(300):
            live.bind(MODEL)
        for _ in range(300):
            live.back()
        for _ in range(300):
            live.again()
        same(self, [len(live.duties_now()), live.answer() == solve(live.book_now())], [301, True])
        self.assertLess(time.time() - begun, 60)


if __name__ == "__main__":
    unittest.main()
