"""Books that are apart: no bits are missed by two clauses, so that the models can be counted by the misses."""

from itertools import combinations

from eithersums.errors import NotApart
from eithersums.flats import bits_many, meet
from eithersums.misses import misses_of
from eithersums.solver import bits_at, least_model, model_places


def meeting(book):
    """Return the least two clauses whose misses meet, None if the book is APART."""
    misses = [(index, miss) for index, miss in enumerate(misses_of(book)) if miss is not None]
    for (one, miss), (other, against) in combinations(misses, 2):
        if meet(miss, against) is not None:
            return (one, other)
    return None


def models_apart(book):
    """Return the number of MODELS of a book."""
    return left_in(book, ())


def left_in(book, flat):
    """Return the number of MODELS of a book that are in a flat."""
    demand_apart(book)
    parts = [meet(flat, miss) for miss in misses_of(book) if miss is not None]
    return bits_many(book[0], flat) - sum([bits_many(book[0], part) for part in parts if part is not None])


def left_bits(book):
    """Return the least MODEL of a book, None if there is none."""
    demand_apart(book)
    return least_model(book)


def models_from(book, flat, most):
    """Return the list of the first MODELS in a flat, at most so many."""
    demand_apart(book)
    return [bits_at(book[0], place) for place in model_places(book, flat)[:most]]


def demand_apart(book):
    """Raise NotApart(one, other) with the least two clauses of a book whose misses meet, if there are any."""
    pair = meeting(book)
    if pair is not None:
        raise NotApart(pair[0], pair[1])
