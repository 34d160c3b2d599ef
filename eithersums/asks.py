"""Asking sums until a clause is known that misses the bits: trees of asks, and the best of them."""

from math import gcd

from eithersums.errors import HasModel, TooMany
from eithersums.flats import all_flats, bits_many, flat_of, halves, lies_in
from eithersums.forms import is_index, is_pair, is_row
from eithersums.misses import misses_of
from eithersums.solver import least_model

MOST_UNKNOWNS = 4


def height_of(tree):
    """Return the HEIGHT of a tree."""
    return max([len(lines) for _, lines in leaves_of(tree)])


def leaves_of(tree):
    """Return the list of the leaves of a tree: for each its index, and the lines answered on the way to it."""
    found = []
    # Trees may be deeper than calls should be, so those that wait are kept in a list.
    waiting = [(tree, ())]
    while waiting:
        part, lines = waiting.pop()
        if part[0] == "end":
            found.append((part[1], lines))
        else:
            waiting.append((part[3], lines + ((part[1], 1),)))
            waiting.append((part[2], lines + ((part[1], 0),)))
    return found


def finds(book, thing):
    """Tell whether a value is a TREE of a book that FINDS a missed clause."""
    demand_askable(book)
    if not _is_tree(book, thing):
        return False
    misses = misses_of(book)
    for part, flat, _ in _parts_reached(thing):
        if part[0] == "end" and part[1] not in missers_on(misses, flat):
            return False
    return True


def fewest_asks(book):
    """Return the least HEIGHT of a tree that finds a missed clause."""
    demand_askable(book)
    return heights_and_trees(book)[()][0]


def best_tree(book):
    """Return a tree of the least HEIGHT that finds a missed clause."""
    demand_askable(book)
    return heights_and_trees(book)[()][1]


def mean_of(book, tree):
    """Return the MEAN of a tree that finds a missed clause."""
    demand_askable(book)
    ends = [(flat, asks) for part, flat, asks in _parts_reached(tree) if part[0] == "end"]
    return _mean(book, sum([asks * bits_many(book[0], flat) for flat, asks in ends]))


def mean_asks(book):
    """Return the least MEAN of trees that find a missed clause."""
    demand_askable(book)
    return _mean(book, _sums_and_trees(book)[()][0])


def mean_tree(book):
    """Return a tree of the least MEAN that finds a missed clause."""
    demand_askable(book)
    return _sums_and_trees(book)[()][1]


def paper_by(book, tree):
    """Return a PAPER that refutes a book, with a step at most for each end and ask of a tree that finds."""
    demand_askable(book)
    steps = []
    places = {}
    # Parts stand ahead of those within them, whose steps are named. A row that is told leaves the flat as it is.
    for part, flat, _ in reversed(_parts_reached(tree)):
        if flat not in places:
            places[flat] = len(steps)
            steps.append((flat, _reason_for(part, flat, places)))
    return tuple(steps)


def demand_askable(book):
    """Raise HasModel(bits) if a book has a model, TooMany(4) if it has more unknowns than that."""
    bits = least_model(book)
    if bits is not None:
        raise HasModel(bits)
    if book[0] > MOST_UNKNOWNS:
        raise TooMany(MOST_UNKNOWNS)


def heights_and_trees(book):
    """Return for each flat the tuple of the least height of a tree that finds on it, and such a tree."""
    return _costs_and_trees(book, lambda flat, zero, unit: 1 + max(zero, unit))


def missers_on(misses, flat):
    """Return the list of the clauses with these misses that miss all bits of a flat."""
    return [index for index, miss in enumerate(misses) if miss is not None and lies_in(flat, miss)]


def rows_untold(many, flat):
    """Return the list of the rows without a head of a flat: by any other that is not told it has halves of one."""
    heads = [row[0] for row, _ in flat]
    rows = [()]
    for unknown in range(many):
        if unknown not in heads:
            rows = rows + [row + (unknown,) for row in rows]
    return rows[1:]


def is_end(book, thing):
    """Tell whether a value is an end of a TREE of a book."""
    return is_pair(thing) and thing[0] == "end" and is_index(len(book[1]), thing[1])


def is_ask(book, thing):
    """Tell whether a value is an ask of a TREE of a book, whatever its two trees are."""
    return isinstance(thing, tuple) and len(thing) == 4 and thing[0] == "ask" and is_row(book[0], thing[1])


def _is_tree(book, thing):
    """Tell whether a value is a TREE of a book."""
    waiting = [thing]
    while waiting:
        part = waiting.pop()
        if is_ask(book, part):
            waiting.extend(part[2:])
        elif not is_end(book, part):
            return False
    return True


def _parts_reached(tree):
    """Return for each part of a tree that some bits get to: it, their flat, and how many asks are ahead of it."""
    found = []
    waiting = [(tree, (), 0)]
    while waiting:
        part, flat, asks = waiting.pop()
        found.append((part, flat, asks))
        for bit in (0, 1) if part[0] == "ask" else ():
            half = flat_of([*flat, (part[1], bit)])
            if half is not None:
                waiting.append((part[2 + bit], half, asks + 1))
    return found


def _reason_for(part, flat, places):
    """Return the reason of a step for a part of a tree whose row cuts the flat, or for an end."""
    if part[0] == "end":
        return ("clause", part[1])
    zero, unit = halves(flat, part[1])
    return ("steps", places[zero], places[unit])


def _mean(book, asks):
    """Return the FRACTION that a sum of asks over all bits has of them."""
    many = 1 << book[0]
    shared = gcd(asks, many)
    return (asks // shared, many // shared)


def _sums_and_trees(book):
    """Return for each flat the tuple of the least sum of asks, over its bits, of a tree that finds on it, and one."""
    return _costs_and_trees(book, lambda flat, zero, unit: bits_many(book[0], flat) + zero + unit)


def _costs_and_trees(book, cost_of):
    """Return for each flat the least cost of a tree that finds on it, and such a tree: 0 for an end, cost_of an ask."""
    misses = misses_of(book)
    best = {}
    # Halves have a line more than their flat, so they come ahead of it.
    for flat in sorted(all_flats(book[0]), key=len, reverse=True):
        ends = [(0, ("end", index)) for index in missers_on(misses, flat)]
        best[flat] = ends[0] if ends else _best_ask(book[0], flat, best, cost_of)
    return best


def _best_ask(many, flat, best, cost_of):
    """Return the least cost of a tree with an ask in front on a flat, and such a tree, by the best of its halves."""
    found = []
    for row in rows_untold(many, flat):
        zero, unit = [best[half] for half in halves(flat, row)]
        found.append((cost_of(flat, zero[0], unit[0]), ("ask", row, zero[1], unit[1])))
    return min(found, key=lambda pair: pair[0])
