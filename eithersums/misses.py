"""Misses: the flat of the bits that a clause misses."""

from eithersums.flats import flat_of, lies_in


def miss_of(clause):
    """Return the MISS of a clause, None if it misses no bits."""
    return flat_of(_turned(clause))


def clause_for(flat):
    """Return the CLAUSE whose miss is a flat, with a line for each of the flat's."""
    return _turned(flat)


def follows_from(one, other):
    """Tell whether all bits that keep the clause other keep the clause one."""
    inner, outer = miss_of(one), miss_of(other)
    if inner is None or outer is None:
        return inner is None
    return lies_in(inner, outer)


def says_same(one, other):
    """Tell whether the same bits keep two clauses."""
    return miss_of(one) == miss_of(other)


def misses_of(book):
    """Return the list of the misses of the clauses of a book."""
    return [miss_of(clause) for clause in book[1]]


def _turned(lines):
    """Return the lines with the other bits; their order stays if no row is there twice, as in a flat."""
    return tuple([(row, 1 - bit) for row, bit in lines])
