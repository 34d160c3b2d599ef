"""Clean sums: whether the misses of a book that is apart can be parted again and again, as by a tree of asks."""

from eithersums.apart import demand_apart
from eithersums.asks import is_ask, is_end
from eithersums.errors import NotWhole
from eithersums.flats import bits_many, halves, lies_in, reduced
from eithersums.forms import is_flat, is_lot, is_pair
from eithersums.misses import misses_of
from eithersums.solver import least_model
from eithersums.sums import dependent_lots, sums_from, together


def clean_rows(book, flat, lot):
    """Return the list of the CLEAN ROWS of a LOT that makes up a flat."""
    demand_apart(book)
    return sorted(sums_from((), _clean_basis(book, misses_of(book), flat, lot))[1:])


def tree_for(book):
    """Return a TREE whose ends name each clause that misses something by its miss, None if there is none."""
    _demand_whole(book)
    misses = misses_of(book)
    return _tree_of(book, misses, (), _lot_of(misses))


def is_tree_for(book, thing):
    """Tell whether a value is such a TREE of a book."""
    demand_apart(book)
    misses = misses_of(book)
    named = []
    waiting = [(thing, ())]
    while waiting:
        part, flat = waiting.pop()
        if is_end(book, part) and misses[part[1]] == flat:
            named.append(part[1])
            continue
        parts = halves(flat, part[1]) if is_ask(book, part) else None
        if parts is None:
            return False
        waiting.extend(list(zip(part[2:], parts)))
    # No two ends have one flat, so none can be named twice.
    return tuple(sorted(named)) == _lot_of(misses)


def knot_of(book):
    """Return a KNOT of a book, None if there is none."""
    _demand_whole(book)
    misses = misses_of(book)
    waiting = [((), _lot_of(misses))]
    while waiting:
        flat, lot = waiting.pop()
        if len(lot) > 1:
            basis = _clean_basis(book, misses, flat, lot)
            if not basis:
                return (flat, lot)
            waiting.extend(_parted(misses, flat, lot, basis[0]))
    return None


def is_knot(book, thing):
    """Tell whether a value is a KNOT of a book."""
    demand_apart(book)
    if not is_pair(thing) or not is_flat(book[0], thing[0]) or not is_lot(book, thing[1]):
        return False
    flat, lot = thing
    misses = misses_of(book)
    if len(lot) < 2 or not _makes_up(book, misses, flat, lot):
        return False
    return not _clean_basis(book, misses, flat, lot)


def parted(book, flat, lot, row):
    """Return the two HALVES of a flat by a clean row of a LOT that makes it up, each with its part of the LOT."""
    demand_apart(book)
    return tuple(_parted(misses_of(book), flat, lot, row))


def _demand_whole(book):
    """Raise NotApart(one, other) if a book is not APART, NotWhole(bits) with its least MODEL if it has one."""
    demand_apart(book)
    bits = least_model(book)
    if bits is not None:
        raise NotWhole(bits)


def _lot_of(misses):
    """Return the LOT of the clauses with these misses that miss something."""
    return tuple([index for index, miss in enumerate(misses) if miss is not None])


def _clean_basis(book, misses, flat, lot):
    """Return independent clean rows of which all others are made."""
    heads = [row[0] for row, _ in flat]
    rows = [(unknown,) for unknown in range(book[0]) if unknown not in heads]
    for index in lot:
        # What is told on a miss is reduced to () by it, and nothing else is.
        lots = dependent_lots([reduced(misses[index], row) for row in rows])
        rows = [together([rows[place] for place in places]) for places in lots]
    return rows


def _tree_of(book, misses, flat, lot):
    """Return a TREE whose ends name the clauses of a LOT that makes up a flat, None if there is none."""
    if len(lot) == 1:
        return ("end", lot[0])
    basis = _clean_basis(book, misses, flat, lot)
    if not basis:
        return None
    # If there is a tree, there is one that begins with whatever clean row.
    trees = [_tree_of(book, misses, half, some) for half, some in _parted(misses, flat, lot, basis[0])]
    return None if None in trees else ("ask", basis[0], trees[0], trees[1])


def _parted(misses, flat, lot, row):
    """Return the list of the HALVES of a flat by a clean row, each with the clauses whose misses lie in it."""
    return [(half, tuple([index for index in lot if lies_in(misses[index], half)])) for half in halves(flat, row)]


def _makes_up(book, misses, flat, lot):
    """Tell whether a LOT of a book that is APART MAKES UP a flat."""
    for index in lot:
        if misses[index] is None or not lies_in(misses[index], flat):
            return False
    return sum([bits_many(book[0], misses[index]) for index in lot]) == bits_many(book[0], flat)
