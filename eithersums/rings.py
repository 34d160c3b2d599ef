"""Rings from a full setting of a tight book: how many lines are to be exchanged until it is not full any more."""

from eithersums.forms import is_index, is_pair
from eithersums.settings import chosen_rows, clause_rows, demand_full
from eithersums.sums import basis_of, together, used_by


def hanging(book, setting, clause, line):
    """Return the tuple of the clauses on which a clause HANGS by one of its lines."""
    demand_full(book, setting)
    return _hanging_by_line(book, setting)[clause][line]


def hangs_on(book, setting):
    """Return the tuple that has for each clause the tuple of those on which it HANGS by any of its lines."""
    demand_full(book, setting)
    return tuple([_all_in(by_line) for by_line in _hanging_by_line(book, setting)])


def is_ring(book, setting, thing):
    """Tell whether a value is a RING from a full setting."""
    demand_full(book, setting)
    if not isinstance(thing, tuple) or len(thing) == 0 or not all([_is_member(book, part) for part in thing]):
        return False
    if len(set([clause for clause, _ in thing])) < len(thing):
        return False
    by_line = _hanging_by_line(book, setting)
    for (clause, line), (other, _) in zip(thing, thing[1:] + thing[:1]):
        if other not in by_line[clause][line]:
            return False
    return True


def shortest_ring(book, setting):
    """Return a SHORTEST RING from a full setting, None if there is none."""
    hangs = hangs_on(book, setting)
    ways = [_way_round(hangs, clause) for clause in range(len(hangs))]
    ways = [way for way in ways if way is not None]
    if not ways:
        return None
    way = min(ways, key=len)
    by_line = _hanging_by_line(book, setting)
    return tuple([(clause, _line_to(by_line[clause], other)) for clause, other in zip(way, way[1:] + way[:1])])


def turned_by(book, setting, ring):
    """Return the setting in which the clauses of a RING from it have their lines in the ring."""
    demand_full(book, setting)
    lines = dict(ring)
    return tuple([lines.get(clause, line) for clause, line in enumerate(setting)])


def _hanging_by_line(book, setting):
    """Return the list that has for each clause the list of those on which it HANGS, for each of its lines."""
    chosen = chosen_rows(book, setting)
    basis = basis_of(chosen)
    return [[used_by(basis, together([row, chosen[clause]])) for row in clause_rows(book, clause)]
            for clause in range(len(chosen))]


def _all_in(tuples):
    """Return the ascending tuple of all that is in some of these."""
    return tuple(sorted(set([part for one in tuples for part in one])))


def _is_member(book, thing):
    """Tell whether a value is a tuple of a clause and the index of one of its lines."""
    return is_pair(thing) and is_index(len(book[1]), thing[0]) and is_index(len(book[1][thing[0]]), thing[1])


def _way_round(hangs, start):
    """Return a shortest list of clauses, each hanging on the next one, the last one on the first, None if none."""
    reached = {}
    latest = [[start]]
    while latest:
        longer = [way + [clause] for way in latest for clause in hangs[way[-1]]]
        latest = []
        for way in longer:
            if way[-1] == start:
                return way[:-1]
            if way[-1] not in reached:
                reached[way[-1]] = True
                latest.append(way)
    return None


def _line_to(by_line, other):
    """Return the first line by which a clause hangs on another one."""
    return [line for line, hanged in enumerate(by_line) if other in hanged][0]
