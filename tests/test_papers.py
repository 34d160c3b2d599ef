"""[20]: papers, against all bits of few unknowns."""

import unittest

from eithersums.books import clauses_of
from eithersums.papers import is_paper, joined, leant_clauses, lifted, missed_by, refutes, shortened, spread
from eithersums.solver import solve
from tests.helpers import (HUGE, all_bits, any_values, bits_at, chance, crowded_book, flats_up_to, full_clause,
                           is_strict_flat, is_strict_integer, nested, plain_holds, plain_keeps, plain_missed, same,
                           some_book, steady, whole_book)

FLATS = {many: flats_up_to(many, many) for many in range(4)}
BITS = {many: {flat: set(bits_at(many, flat)) for flat in FLATS[many]} for many in range(4)}

ZERO, UNIT, TWO = (((0,), 0),), (((0,), 1),), (((0,), 1), ((1,), 1))
BOOK = (2, ((((0,), 0), ((1,), 0)), (((0, 1), 0),), (((0,), 1),), (((0,), 0), ((0,), 1)), ()))
PAPER = ((TWO, ("clause", 0)), ((((0, 1), 1),), ("clause", 1)), (UNIT, ("steps", 0, 1)), (ZERO, ("clause", 2)),
         ((), ("steps", 2, 3)))


def plain_is_paper(book, thing):
    """Tell by all bits whether a value is a PAPER of a book."""
    if type(thing) is not tuple or thing == ():
        return False
    for at, step in enumerate(thing):
        if type(step) is not tuple or len(step) != 2 or not is_strict_flat(book[0], step[0]):
            return False
        reason = step[1]
        if type(reason) is not tuple or not reason or not all(is_strict_integer(part) for part in reason[1:]):
            return False
        if type(reason[0]) is not str or (reason[0], len(reason)) not in (("clause", 2), ("steps", 3)):
            return False
        if not all(0 <= part < (len(book[1]) if len(reason) == 2 else at) for part in reason[1:]):
            return False
        bits = set(bits_at(book[0], step[0]))
        if len(reason) == 2:
            shown = set(plain_missed(book[0], book[1][reason[1]]))
        else:
            shown = set([some for part in reason[1:] for some in bits_at(book[0], thing[part][0])])
        if not bits <= shown:
            return False
    return True


def some_paper(seed, book, count):
    """Return a PAPER of a book with at most so many steps, made of the flats that are shown by chance."""
    source = chance(seed)
    many = book[0]
    steps = []
    for _ in range(count):
        if len(steps) < 3 or source.random() < 0.3:
            index = source.randrange(len(book[1]))
            reason, shown = ("clause", index), set(plain_missed(many, book[1][index]))
        else:
            reason = ("steps", source.randrange(len(steps)), source.randrange(len(steps)))
            shown = BITS[many][steps[reason[1]][0]] | BITS[many][steps[reason[2]][0]]
        flats = [flat for flat in FLATS[many] if BITS[many][flat] <= shown]
        if flats:
            great = max([len(BITS[many][flat]) for flat in flats])
            great = great if source.random() < 0.7 else 1
            steps.append((source.choice([flat for flat in flats if len(BITS[many][flat]) >= great]), reason))
    return tuple(steps)


def unlike_flats(flat):
    """Return values that are near to a flat: wider, less, not reduced, in another order, of other kinds."""
    found = [flat[:-1], flat[1:], flat[::-1], flat + flat, list(flat), flat + ((),), None, (flat,)]
    for at, (row, bit) in enumerate(flat):
        for line in ((row, 1 - bit), (row, bool(bit)), (row, 2), [row, bit], (list(row), bit), (row[::-1] * 2, bit),
                     (row + (9,), bit), (tuple(map(bool, row)), bit), ((), bit), (row, None), (row,), (row, bit, 0)):
            found.append(flat[:at] + (line,) + flat[at + 1:])
        if at + 1 < len(flat):
            other = tuple(sorted(set(row) ^ set(flat[at + 1][0])))
            found.append(tuple(sorted(flat[:at] + ((other, bit ^ flat[at + 1][1]),) + flat[at + 1:])))
    return found


def unlike_reasons(reason):
    """Return values that are near to a reason: other indexes, words and kinds."""
    found = [list(reason), reason[1:], reason[::-1], reason + (0,), reason[:-1], (reason,), None, (), "clause"]
    for word in ("clause", "steps", "Clause", "step", "", None, True, 0, ("clause",), ["steps"]):
        found.append((word, *reason[1:]))
        found.append((word, reason[1], reason[1]))
        found.append((word, reason[1]))
    for at in range(1, len(reason)):
        for part in (reason[at] + 1, reason[at] - 1, -1, -2, HUGE, -HUGE, bool(reason[at]), str(reason[at]), None,
                     (reason[at],), [reason[at]], 300):
            found.append(reason[:at] + (part,) + reason[at + 1:])
    return found


def unlike_papers(paper):
    """Return values that are near to a paper."""
    found = [list(paper), paper[::-1], paper[1:], paper[:-1], paper + paper, (paper,), (), paper + ((),), paper + (None,)]
    for at, (flat, reason) in enumerate(paper):
        ahead, behind = paper[:at], paper[at + 1:]
        found += [ahead + behind, ahead + (paper[at],) * 2 + behind, ahead + behind[:1] + (paper[at],) + behind[1:]]
        found += [ahead + ([flat, reason],) + behind, ahead + ((reason, flat),) + behind, ahead + ((flat,),) + behind]
        found += [ahead + ((flat, reason, 0),) + behind, ahead + (((), reason),) + behind, ahead + (flat,) + behind]
        found += [ahead + ((other, reason),) + behind for other in unlike_flats(flat)]
        found += [ahead + ((flat, other),) + behind for other in unlike_reasons(reason)]
    return found


class TestIsPaper(unittest.TestCase):
    def check(self, book, thing):
        wanted = plain_is_paper(book, thing)
        same(self, is_paper(book, thing), wanted, (book, thing))
        same(self, refutes(book, thing), wanted and thing[-1][0] == (), (book, thing))
        return wanted

    def test_unlike_papers(self):
        same(self, steady(self, is_paper, BOOK, PAPER), True)
        found = [self.check(BOOK, thing) for thing in unlike_papers(PAPER)]
        self.assertIn(True, found)
        self.assertGreater(found.count(False), 300)

    def test_some_papers(self):
        for seed in range(40):
            book = some_book(seed, 1 + seed % 3, 1 + seed % 5, 3)
            paper = some_paper(seed, book, 8)
            if paper:
                same(self, self.check(book, paper), True)
                for thing in chance(seed).sample(unlike_papers(paper), 60):
                    self.check(book, thing)

    def test_any_two_steps(self):
        book = (2, ((((0,), 0), ((1,), 0)), (((0, 1), 0),)))
        for flat in FLATS[2]:
            for index in range(-1, 3):
                self.check(book, ((flat, ("clause", index)),))
            for other in FLATS[2]:
                self.check(book, (PAPER[0], PAPER[1], (flat, ("steps", 0, 1)), (other, ("steps", 2, 2))))

    def test_steps_named(self):
        first = (ZERO, ("clause", 2))
        for one in range(-2, 4):
            for other in range(-2, 4):
                for flat in (ZERO, (), UNIT):
                    self.check(BOOK, (first, (UNIT, ("clause", 4)), (flat, ("steps", one, other)), first))
        same(self, is_paper(BOOK, (first, (ZERO, ("steps", 0, 0)))), True)
        same(self, is_paper(BOOK, ((ZERO, ("steps", 0, 0)), first)), False)
        same(self, is_paper(BOOK, (first, (ZERO, ("steps", False, 0)))), False)
        same(self, is_paper(BOOK, (first, (ZERO, ("steps", 0)))), False)

    def test_clauses_that_miss_nothing_or_all(self):
        for flat in FLATS[2]:
            same(self, is_paper(BOOK, ((flat, ("clause", 3)),)), False)
            same(self, is_paper(BOOK, ((flat, ("clause", 4)),)), True)
            same(self, refutes(BOOK, ((flat, ("clause", 4)),)), flat == ())
        same(self, [refutes((0, ((),)), (((), ("clause", 0)),)), refutes((0, ()), (((), ("clause", 0)),))], [True, False])
        same(self, [is_paper((0, ((), ())), (((), ("clause", 1)),)), is_paper((0, ()), ())], [True, False])

    def test_last_flat_is_the_whole(self):
        same(self, steady(self, refutes, BOOK, PAPER), True)
        same(self, refutes(BOOK, PAPER + (PAPER[0],)), False)
        same(self, refutes(BOOK, PAPER[:4]), False)
        same(self, refutes(BOOK, (((), ("clause", 0)),)), False)
        same(self, refutes(BOOK, PAPER[:4] + (([], ("steps", 2, 3)),)), False)

    def test_any_values(self):
        for book in (BOOK, (0, ()), (0, ((),)), (1, ((((0,), 0),),))):
            for value in any_values():
                for thing in (value, (value,), ((value, ("clause", 0)),), (((), value),), (((), ("clause", value)),),
                              (((), (value, 0)),), PAPER[:3] + (((), ("steps", value, 0)),), PAPER + (value,),
                              ((((value, 0),), ("clause", 0)),), ((((0,), value), ("clause", 0)),)):
                    if plain_is_paper(book, thing):
                        continue
                    same(self, [is_paper(book, thing), refutes(book, thing)], [False, False])
        same(self, is_paper(BOOK, nested(19, PAPER, tuple)), False)

    def test_long_papers(self):
        book = (12, ((((0,), 0),), (((0,), 1),)))
        paper = ((UNIT, ("clause", 0)), (ZERO, ("clause", 1)))
        for at in range(298):
            paper += (((), ("steps", at % 2, 1 - at % 2)) if at < 2 else ((), ("steps", at, at + 1)),)
        same(self, [len(paper), steady(self, is_paper, book, paper), refutes(book, paper)], [300, True, True])
        same(self, is_paper(book, paper[:-1] + (((), ("steps", 0, 299)),)), False)
        same(self, is_paper(book, paper * 5), True)
        same(self, len(spread(book, paper)[-1]), 2)
        same(self, shortened(paper)[-1], ((), ("steps", len(shortened(paper)) - 3, len(shortened(paper)) - 2)))


def plain_leant(paper):
    """Return the indexes of the steps on which the last one leans."""
    found, latest = {len(paper) - 1}, None
    while latest != found:
        latest = set(found)
        found |= {part for at in latest if paper[at][1][0] == "steps" for part in paper[at][1][1:]}
    return sorted(found)


def papers():
    """Return tuples of a book and a PAPER of it."""
    found = [(BOOK, PAPER), ((0, ((),)), (((), ("clause", 0)),))]
    for seed in range(60):
        book = some_book(seed, 1 + seed % 3, 1 + seed % 6, 3)
        paper = some_paper(seed, book, 3 + seed % 12)
        if paper:
            found.append((book, paper))
    return found


class TestWithPapers(unittest.TestCase):
    def test_shortened(self):
        for book, paper in papers():
            leant = plain_leant(paper)
            found = steady(self, shortened, paper)
            wanted = [(paper[at][0], paper[at][1] if paper[at][1][0] == "clause" else
                       ("steps", *[leant.index(part) for part in paper[at][1][1:]])) for at in leant]
            same(self, found, tuple(wanted))
            same(self, [is_paper(book, found), shortened(found) == found, found[-1][0]], [True, True, paper[-1][0]])

    def test_shortened_edges(self):
        same(self, shortened(PAPER), PAPER)
        same(self, [shortened(PAPER[:4]), shortened(PAPER[:3])], [((ZERO, ("clause", 2)),), PAPER[:3]])
        same(self, shortened(PAPER[:2] + PAPER[3:4] + ((ZERO, ("steps", 2, 2)),)),
             ((ZERO, ("clause", 2)), (ZERO, ("steps", 0, 0))))

    def test_leant_clauses(self):
        for _, paper in papers():
            reasons = [paper[at][1] for at in plain_leant(paper)]
            wanted = sorted(set([reason[1] for reason in reasons if reason[0] == "clause"]))
            same(self, steady(self, leant_clauses, paper), tuple(wanted))
        same(self, [leant_clauses(PAPER), leant_clauses(PAPER[:4]), leant_clauses(PAPER[:3])], [(0, 1, 2), (2,), (0, 1)])
        twice = ((ZERO, ("clause", 2)), (ZERO, ("clause", 2)), (ZERO, ("steps", 1, 0)))
        same(self, leant_clauses(twice), (2,))

    def test_lifted(self):
        for lot in ((0, 1, 2), (0, 1, 2, 4), (1, 2, 4), (4,), (2, 3, 4)):
            small = clauses_of(BOOK, lot)
            paper = solve(small)[1]
            found = steady(self, lifted, paper, lot)
            same(self, [is_paper(BOOK, found), len(found)], [True, len(paper)])
            for step, other in zip(paper, found):
                named = ("clause", lot[step[1][1]]) if step[1][0] == "clause" else step[1]
                same(self, other, (step[0], named))
        same(self, lifted(((UNIT, ("clause", 1)), (UNIT, ("steps", 0, 0))), (0, 3)),
             ((UNIT, ("clause", 3)), (UNIT, ("steps", 0, 0))))

    def test_joined(self):
        source = chance(61)
        for book, paper in papers():
            other = some_paper(source.randrange(1000), book, 7)
            if not other:
                continue
            for flat in ((), paper[-1][0], other[-1][0]):
                found = steady(self, joined, paper, other, flat)
                behind = [(part, reason if reason[0] == "clause" else
                           ("steps", reason[1] + len(paper), reason[2] + len(paper))) for part, reason in other]
                last = (flat, ("steps", len(paper) - 1, len(paper) + len(other) - 1))
                same(self, found, paper + tuple(behind) + (last,))
                same(self, is_paper(book, found), plain_is_paper(book, found))
        same(self, joined(PAPER[3:4], PAPER[3:4], ()), (PAPER[3], PAPER[3], ((), ("steps", 0, 1))))

    def test_spread(self):
        for book, paper in papers():
            wanted = []
            for at in range(len(paper)):
                reasons = [paper[part][1] for part in plain_leant(paper[:at + 1])]
                wanted.append(tuple(sorted(set([reason[1] for reason in reasons if reason[0] == "clause"]))))
            found = steady(self, spread, book, paper)
            same(self, found, wanted)
            for (flat, _), lot in zip(paper, found):
                for bits in BITS[book[0]][flat]:
                    self.assertTrue([1 for index in lot if not plain_keeps(book[1][index], bits)])
        spread(BOOK, PAPER).clear()
        same(self, spread(BOOK, PAPER), [(0,), (1,), (0, 1), (2,), (0, 1, 2)])

    def test_clauses_far_apart(self):
        book = (1, ((),) + (UNIT,) * 7 + (ZERO,) * 16)
        for one, other in ((8, 1), (1, 8), (7, 9), (3, 11), (16, 5), (23, 7)):
            flats = [ZERO if book[1][index] == UNIT else UNIT for index in (one, other)]
            paper = ((flats[0], ("clause", one)), (flats[1], ("clause", other)), ((), ("steps", 0, 1)))
            wanted = (min(one, other), max(one, other))
            same(self, [refutes(book, paper), leant_clauses(paper)], [True, wanted])
            same(self, spread(book, paper), [(one,), (other,), wanted])

    def test_missed_by(self):
        for book, paper in papers():
            for bits in BITS[book[0]][paper[-1][0]]:
                at = len(paper) - 1
                while paper[at][1][0] == "steps":
                    _, one, other = paper[at][1]
                    at = one if all(plain_holds(line, bits) for line in paper[one][0]) else other
                found = steady(self, missed_by, book, paper, bits)
                same(self, found, paper[at][1][1])
                self.assertFalse(plain_keeps(book[1][found], bits))

    def test_missed_by_goes_to_the_first(self):
        book = (1, ((), (((0,), 0),), ()))
        steps = (((), ("clause", 2)), ((), ("clause", 0)), (UNIT, ("clause", 1)))
        for one in range(3):
            for other in range(3):
                paper = steps + ((UNIT, ("steps", one, other)),)
                same(self, missed_by(book, paper, (1,)), (2, 0, 1)[one])
        paper = steps + (((), ("steps", 2, 1)),)
        same(self, [missed_by(book, paper, (1,)), missed_by(book, paper, (0,))], [1, 0])

    def test_at_the_bounds(self):
        for book in (whole_book(62, 12, 24), crowded_book(63, 12, 24), (12, (full_clause(chance(64), 12, 6),) * 23 + ((),))):
            paper = solve(book)[1]
            same(self, [steady(self, is_paper, book, paper), refutes(book, paper)], [True, True])
            same(self, spread(book, paper)[-1], leant_clauses(paper))
            for bits in all_bits(12)[::9]:
                self.assertFalse(plain_keeps(book[1][missed_by(book, paper, bits)], bits))
            same(self, refutes(book, shortened(paper)), True)
            same(self, refutes(book, joined(paper, paper, ())), True)
            for at in range(0, len(paper), 7):
                self.assertFalse(is_paper(book, paper[:at] + ((paper[at][0], ("steps", at, 0)),) + paper[at + 1:]))


if __name__ == "__main__":
    unittest.main()
