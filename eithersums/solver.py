"""Solving: models of a book, or a paper that there is none.

The PLACE of bits is the number that they show as binary digits: so the order of places is that of bits. The MARK of
bits is an integer with the digit 1 << index for each clause that misses them: it is 0 exactly if they are a model.
"""

from eithersums.books import missed
from eithersums.flats import flat_of, halves, meet, reduced, told_on
from eithersums.forms import are_bits, is_pair
from eithersums.misses import misses_of
from eithersums.papers import refutes


def solve(book):
    """Return ("model", bits) with a MODEL of a book, or ("paper", paper) with a PAPER that REFUTES it."""
    bits = least_model(book)
    return ("paper", _refuting_paper(book)) if bits is None else ("model", bits)


def is_answer(book, thing):
    """Tell whether a value is an ANSWER of a book."""
    if not is_pair(thing):
        return False
    if thing[0] == "model":
        return are_bits(book[0], thing[1]) and missed(book, thing[1]) == []
    return thing[0] == "paper" and refutes(book, thing[1])


def least_model(book):
    """Return the least model of a book, None if there is none."""
    return model_with(book, ())


def model_with(book, lines):
    """Return the least model at which all of these lines hold, too, None if there is none."""
    flat = flat_of(lines)
    places = [] if flat is None else model_places(book, flat)
    return bits_at(book[0], places[0]) if places else None


def models_many(book):
    """Return the number of all models of a book."""
    return len(model_places(book, ()))


def model_places(book, flat):
    """Return the ascending list of the places of the models that are in a flat."""
    marks = marks_of(book)
    return [place for place in sorted(places_in(book[0], flat)) if marks[place] == 0]


def marks_of(book):
    """Return the list of the marks of all bits, by their places."""
    marks = [0] * (1 << book[0])
    for index, miss in enumerate(misses_of(book)):
        if miss is not None:
            for place in places_in(book[0], miss):
                marks[place] |= 1 << index
    return marks


def places_in(many, flat):
    """Return the list of the places of the bits in a flat, in any order."""
    digits = {unknown: 1 << (many - 1 - unknown) for unknown in range(many)}
    heads = {row[0]: True for row, bit in flat}
    places = [sum([digits[row[0]] for row, bit in flat if bit])]
    for unknown in range(many):
        if unknown not in heads:
            # An unknown that is no head is turned together with the heads of the rows that it is in.
            turned = sum([digits[row[0]] for row, bit in flat if unknown in row], start=digits[unknown])
            places = places + [place ^ turned for place in places]
    return places


def bits_at(many, place):
    """Return the bits with a place."""
    return tuple([place >> (many - 1 - unknown) & 1 for unknown in range(many)])


def _refuting_paper(book):
    """Return a PAPER that REFUTES a book without a model."""
    steps = []
    _put_steps(steps, (), _met((), list(enumerate(misses_of(book)))))
    return tuple(steps)


def _met(flat, misses):
    """Return the misses, by index, that meet a flat, each within it."""
    found = []
    for index, miss in misses:
        within = None if miss is None else meet(flat, miss)
        if within is not None:
            found.append((index, within))
    return found


def _put_steps(steps, flat, misses):
    """Put steps to a list, the last one for a flat, whose bits are all in these misses, by index, within it."""
    # The greatest part that one clause misses leaves the least to be shown.
    index, miss = min(misses, key=lambda pair: len(pair[1]))
    if miss == flat:
        steps.append((flat, ("clause", index)))
        return
    shown = []
    for half in halves(flat, _row_between(flat, miss, misses)):
        _put_steps(steps, half, _met(half, misses))
        shown.append(len(steps) - 1)
    steps.append((flat, ("steps", *shown)))


def _row_between(flat, miss, misses):
    """Return a row that is told on a miss within a flat, but not on the flat, and that cuts the fewest misses."""
    rows = [reduced(flat, row) for row, _ in miss]
    return min([row for row in rows if row], key=lambda row: len(_cut_by_row(row, misses)))


def _cut_by_row(row, misses):
    return [index for index, miss in misses if told_on(miss, row) is None]
