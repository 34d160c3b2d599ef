"""[26], and [7] as far as it is about liars: against all flats and sums of at most four unknowns."""

import unittest
from itertools import product

from eithersums.asks import fewest_asks
from eithersums.liars import answers_by, is_liar, liar_of
from tests.helpers import (HUGE, all_bits, any_values, bits_at, chance, crowded_book, demands_no_model, flats_up_to,
                           is_strict_flat, is_strict_integer, plain_holds, plain_keeps, same, small_books_without,
                           some_row, spoil, steady, sums_of, whole_book)

BOOK = (2, ((((0,), 1), ((1,), 1)), (((0,), 0),), (((0,), 1), ((1,), 0))))
LIAR = {(): 2, (((0,), 0),): 1, (((0, 1), 0),): 1, (((1,), 0),): 1}
FLATS = {many: flats_up_to(many, many) for many in range(5)}
BITS = {many: {flat: frozenset(bits_at(many, flat)) for flat in FLATS[many]} for many in FLATS}
BY_BITS = {many: {bits: flat for flat, bits in BITS[many].items()} for many in FLATS}


def plain_halves(many, flat):
    """Return the halves of a flat, by bits, for each sum that is not told on it."""
    found = []
    for row in sums_of(many):
        zero = frozenset([bits for bits in BITS[many][flat] if plain_holds((row, 0), bits)])
        if zero and zero != BITS[many][flat]:
            found.append((BY_BITS[many][zero], BY_BITS[many][BITS[many][flat] - zero]))
    return found


def plain_is_liar(book, thing):
    """Tell whether a value is a LIAR for some number, by its words."""
    if type(thing) is not dict or not [1 for key in thing if type(key) is tuple and key == ()]:
        return False
    for flat, number in thing.items():
        if not is_strict_flat(book[0], flat) or not is_strict_integer(number) or number < 1:
            return False
    for flat, number in thing.items():
        for clause in book[1]:
            if not [1 for bits in BITS[book[0]][flat] if plain_keeps(clause, bits)]:
                return False
        for parts in plain_halves(book[0], flat) if number > 1 else ():
            if not [1 for part in parts if part in thing and thing[part] >= number - 1]:
                return False
    return True


def unlike_dicts(liar, source):
    """Return dicts that are near to one: keys out, put in, of other kinds, numbers more or less."""
    found = [{}, {(): 1}, {(): 0}, {(): -1}, {(): True}, {(): HUGE}, {(): None}, {(): "1"}, {None: 1}, {0: 1}, {"": 1}]
    for key in liar:
        rest = {other: liar[other] for other in liar if other != key}
        found.append(rest)
        for number in (liar[key] + 1, liar[key] - 1, 0, 1, -1, HUGE, True, False, None, "1", (1,), [1], {}):
            found.append({**liar, key: number})
        for other in (key[::-1], key + key, key[1:], key[:-1], key + (((9,), 0),), (key,), None, True, 0, "all",
                      tuple([(row, bool(bit)) for row, bit in key]), tuple([(tuple(map(bool, row)), bit) for row, bit in key]),
                      tuple([(row, bit + 2) for row, bit in key]), tuple([(row[::-1], bit) for row, bit in key]),
                      tuple([(row, 1 - bit) for row, bit in key])):
            found += [{**rest, other: liar[key]}, {**liar, other: 1}]
        if len(key) > 1:
            row = tuple(sorted(set(key[0][0]) ^ set(key[1][0])))
            found.append({**rest, tuple(sorted([(row, key[0][1] ^ key[1][1]), key[1]])): liar[key]})
    return source.sample(found, 60) if len(found) > 60 else found


class TestLiarOf(unittest.TestCase):
    def test_liar_of(self):
        for book in small_books_without():
            found = steady(self, liar_of, book)
            fewest = fewest_asks(book)
            same(self, list(found), sorted(found))
            if fewest == 0:
                same(self, found, {})
                continue
            same(self, [found[()], plain_is_liar(book, found)], [fewest, True], book)
            same(self, steady(self, is_liar, book, found), True)
            same(self, is_liar(book, dict(reversed(list(found.items())))), True)

    def test_edges(self):
        same(self, [liar_of((0, ((),))), liar_of((4, ((), ()))), liar_of((3, ((((0,), 0), ((0,), 1)), ())))], [{}, {}, {}])
        same(self, liar_of((1, ((((0,), 0),), (((0,), 1),)))), {(): 1})
        liar_of(BOOK).clear()
        same(self, liar_of(BOOK)[()], 2)

    def test_at_the_bounds(self):
        for book in (crowded_book(7, 4, 24), (4, whole_book(8, 4, 16)[1] + crowded_book(9, 4, 8)[1])):
            found = steady(self, liar_of, book)
            same(self, [steady(self, is_liar, book, found), found[()]], [True, fewest_asks(book)])
            same(self, is_liar(book, {**found, (): found[()] + 1}), False)


class TestIsLiar(unittest.TestCase):
    def test_all_dicts_of_two_unknowns(self):
        wider = [flat for flat in FLATS[2] if len(flat) < 2 and flat]
        for numbers in product((0, 1, 2), repeat=len(wider)):
            if numbers.count(0) > 3 or numbers.count(2) < 4:
                liar = {flat: number for flat, number in zip(wider, numbers) if number}
                for number in (1, 2, 3):
                    thing = {**liar, (): number}
                    same(self, is_liar(BOOK, thing), plain_is_liar(BOOK, thing), thing)

    def test_unlike_dicts(self):
        source = chance(121)
        counts = {True: 0, False: 0}
        for book in small_books_without()[2::3] + [BOOK]:
            liar = LIAR if book == BOOK else liar_of(book)
            for thing in unlike_dicts(liar, source):
                wanted = plain_is_liar(book, thing)
                counts[wanted] += 1
                same(self, is_liar(book, thing), wanted, (book, thing))
        self.assertGreater(min(counts.values()), 50)

    def test_number_is_at_most_fewest_asks(self):
        for book in small_books_without():
            liar = {**liar_of(book), (): fewest_asks(book)}
            for number in range(1, 6):
                told = is_liar(book, {**liar, (): number})
                same(self, told, 1 <= number <= fewest_asks(book), "[7]")

    def test_more_numbers_than_needed(self):
        same(self, steady(self, is_liar, BOOK, LIAR), True)
        for flat in LIAR:
            same(self, is_liar(BOOK, {other: LIAR[other] for other in LIAR if other != flat}), False)
        same(self, [is_liar(BOOK, {(): 1}), is_liar(BOOK, {(): 2}), is_liar(BOOK, {(): 3}), is_liar(BOOK, {})],
             [True, False, False, False])
        lone = (((0,), 0),)
        same(self, [is_liar(BOOK, {**LIAR, lone: 2}), is_liar(BOOK, {lone: 1}), is_liar(BOOK, {(): 1, lone: 1})],
             [False, False, True])
        same(self, is_liar(BOOK, {**LIAR, (((0,), 0), ((1,), 0)): 1}), False)
        same(self, [is_liar((0, ((),)), {(): 1}), is_liar((0, ((),)), {}), is_liar((3, ((),)), {(): 1})], [False] * 3)

    def test_truths(self):
        for thing in ({**LIAR, (): True}, {(): True}, {**LIAR, (((0,), 0),): True}, {(): 1, (((False,), 0),): 1},
                      {(): 1, (((0,), False),): 1}, {(): 1, (((True,), 0),): 1}, {(): 1, False: 1}, {(): 1.0 and False}):
            same(self, [is_liar(BOOK, thing), plain_is_liar(BOOK, thing)], [False, False], thing)

    def test_any_values(self):
        for book in (BOOK, (0, ((),)), (1, ((((0,), 0),), (((0,), 1),)))):
            for value in any_values():
                for thing in (value, (value,), [value], {(): value}, {**LIAR, (): value}, {(): 1, "x": value}):
                    same(self, is_liar(book, thing), plain_is_liar(book, thing), (book, thing))
                if not isinstance(value, (list, dict)) and not [1 for word in ("[", "{", "Live") if word in repr(value)]:
                    thing = {(): 1, value: 1}
                    same(self, is_liar(book, thing), plain_is_liar(book, thing), (book, thing))


class TestAnswersBy(unittest.TestCase):
    def plain_answers(self, many, liar, rows):
        bits, worths = BITS[many][()], []
        for row in rows:
            zero = frozenset([some for some in bits if plain_holds((row, 0), some)])
            if not zero or zero == bits:
                worths.append(0 if zero else 1)
                continue
            half = BY_BITS[many][zero]
            good = half in liar and liar[half] >= liar[BY_BITS[many][bits]] - 1
            worths.append(0 if good else 1)
            bits = zero if good else bits - zero
        return (tuple(worths), BY_BITS[many][bits])

    def check(self, book, liar, rows):
        found = steady(self, answers_by, book, liar, rows)
        same(self, found, self.plain_answers(book[0], liar, rows), (book, liar, rows))
        for clause in book[1]:
            self.assertTrue([1 for bits in BITS[book[0]][found[1]] if plain_keeps(clause, bits)])

    def test_all_rows(self):
        for book in small_books_without():
            liar = liar_of(book)
            rows = [row for row in sums_of(book[0]) if row]
            for count in range(liar.get((), 0)):
                if len(rows) ** count < 60:
                    for some in product(rows, repeat=count):
                        self.check(book, liar, some)

    def test_some_rows(self):
        source = chance(122)
        for book in small_books_without():
            liar = liar_of(book)
            for _ in range(20 if liar else 0):
                rows = tuple([some_row(source, book[0]) for _ in range(source.randrange(liar[()]))])
                self.check(book, liar, rows)
                more = {flat: max(1, liar[flat] - 1) for flat in liar}
                self.check(book, more, rows[:max(0, more[()] - 1)])

    def test_other_liars(self):
        """A liar may have a zero half with a number that is too small, or none at all."""
        for rows in [()] + [(row,) for row in ((0,), (1,), (0, 1))]:
            self.check(BOOK, LIAR, rows)
        book = (2, tuple([(((0,), bits[0]), ((1,), bits[1])) for bits in all_bits(2)]))
        units = {(): 2, (((0,), 1),): 1, (((0, 1), 1),): 1, (((1,), 1),): 1}
        same(self, [is_liar(book, units), answers_by(book, units, ((0,),)), answers_by(book, units, ((0, 1),))],
             [True, ((1,), (((0,), 1),)), ((1,), (((0, 1), 1),))])
        eight = (3, tuple([tuple([((k,), bits[k]) for k in range(3)]) for bits in all_bits(3)]))
        liar = {**liar_of(eight), (((0,), 0),): 1}
        same(self, [is_liar(eight, liar), answers_by(eight, liar, ((0,),)), answers_by(eight, liar, ((0,), (0, 1)))],
             [True, ((1,), (((0,), 1),)), ((1, 0), (((0,), 1), ((1,), 1)))])

    def test_edges(self):
        same(self, [answers_by(BOOK, LIAR, ()), answers_by(BOOK, {(): 1}, ())], [((), ()), ((), ())])
        eight = (3, tuple([tuple([((k,), bits[k]) for k in range(3)]) for bits in all_bits(3)]))
        self.check(eight, liar_of(eight), ((0,), (0,)))
        self.check(eight, liar_of(eight), ((0, 2), (0, 2)))


class TestErrors(unittest.TestCase):
    def test_has_model_and_too_many(self):
        demands_no_model(self, liar_of)
        for thing in (LIAR, {}, {(): 1}, None, [], "x", (), {(): True}, HUGE):
            demands_no_model(self, is_liar, thing)
        demands_no_model(self, answers_by, LIAR, ((0,),))
        demands_no_model(self, answers_by, {(): 1}, ())

    def test_returned_dicts_are_the_callers(self):
        spoil(liar_of(BOOK))
        same(self, is_liar(BOOK, liar_of(BOOK)), True)


if __name__ == "__main__":
    unittest.main()
