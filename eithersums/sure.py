"""Sure sums: those that have one worth in all models of a book."""

from eithersums.errors import NoModel
from eithersums.flats import is_in, least_flat, told_on
from eithersums.solver import bits_at, model_places, solve
from eithersums.sums import together, worth_of


def sure_flat(book):
    """Return the least FLAT in which all models are."""
    return least_flat(_some_models(book))


def sure_bit(book, row):
    """Return the worth of a row if it is sure, otherwise None."""
    return told_on(sure_flat(book), row)


def parting_models(book, row):
    """Return a model at which a row has the worth 0 and one at which it has 1, None if it is sure."""
    by_worth = ([], [])
    for bits in _some_models(book):
        by_worth[worth_of(row, bits)].append(bits)
    zero, unit = by_worth
    return (zero[0], unit[0]) if zero and unit else None


def spread_models(book):
    """Return models, as few as can be, such that the least FLAT in which all models are is the least with these."""
    models = _some_models(book)
    found = models[:1]
    flat = least_flat(found)
    for bits in models[1:]:
        if not is_in(flat, bits):
            found.append(bits)
            flat = least_flat(found)
    return found


def sure_along(book, order):
    """Return the tuple of the places of an ORDER of a TIGHT book whose clause adds a sure sum."""
    flat = sure_flat(book)
    return tuple([place for place, index in enumerate(order) if _adds_sure(flat, book[1][index])])


def _some_models(book):
    """Return the list of all models of a book; NoModel(paper) if there is none."""
    places = model_places(book, ())
    if not places:
        raise NoModel(solve(book)[1])
    return [bits_at(book[0], place) for place in places]


def _adds_sure(flat, clause):
    """Tell whether any two lines of a clause are told by a flat to hold, or not to hold, together."""
    row, bit = clause[0]
    for other, worth in clause:
        if told_on(flat, together([row, other])) != bit ^ worth:
            return False
    return True
