"""Cores: lots of clauses without a model, that have one whichever clause is left out."""

from itertools import combinations

from eithersums.books import clauses_of
from eithersums.errors import HasModel, TooMany
from eithersums.forms import is_lot
from eithersums.papers import lifted
from eithersums.solver import least_model, marks_of, solve

MOST_CLAUSES = 12


def core_of(book):
    """Return a core of a book, None if it has a model."""
    marks = _unlike_marks(book)
    core = tuple(range(len(book[1])))
    if not _has_no_model(marks, core):
        return None
    for index in range(len(book[1])):
        rest = _without(core, index)
        if _has_no_model(marks, rest):
            core = rest
    return core


def is_core(book, thing):
    """Tell whether a value is a CORE of a book."""
    if not is_lot(book, thing):
        return False
    marks = _unlike_marks(book)
    return _has_no_model(marks, thing) and len(_needed_in(marks, thing)) == len(thing)


def needed_clauses(book):
    """Return the clauses without each of which alone a book has a model; HasModel(bits) if it has one itself."""
    bits = least_model(book)
    if bits is not None:
        raise HasModel(bits)
    return _needed_in(_unlike_marks(book), tuple(range(len(book[1]))))


def all_cores(book):
    """Return the list of all cores of a book; TooMany(12) if it has more clauses than that."""
    count = len(book[1])
    if count > MOST_CLAUSES:
        raise TooMany(MOST_CLAUSES)
    marks = _unlike_marks(book)
    refuted = {}
    for size in range(count + 1):
        for lot in combinations(range(count), size):
            if _has_no_model(marks, lot):
                refuted[lot] = True
    return sorted([lot for lot in refuted if not [1 for index in lot if _without(lot, index) in refuted]])


def least_cores(book):
    """Return the list of the cores with the fewest clauses; TooMany(12) as for all of them."""
    cores = all_cores(book)
    least = min([len(core) for core in cores], default=0)
    return [core for core in cores if len(core) == least]


def core_paper(book, core):
    """Return a PAPER that refutes a book, and names clauses of a core alone."""
    _, paper = solve(clauses_of(book, core))
    return lifted(paper, core)


def _unlike_marks(book):
    """Return the marks that there are at all bits, each once."""
    return sorted(set(marks_of(book)))


def _has_no_model(marks, lot):
    """Tell whether all bits are missed by a clause of a lot."""
    digits = sum([1 << index for index in lot])
    for mark in marks:
        if mark & digits == 0:
            return False
    return True


def _without(lot, index):
    return tuple([other for other in lot if other != index])


def _needed_in(marks, lot):
    """Return the clauses of a lot without each of which alone it has a model."""
    return tuple([index for index in lot if not _has_no_model(marks, _without(lot, index))])
