"""Lines of tight books that may be added, or must be left out, such that all settings are full."""

from itertools import combinations

from eithersums.errors import Fails, TooMany
from eithersums.orders import failing_setting, flat_order, laid_out
from eithersums.settings import clause_rows, demand_tight, is_tight
from eithersums.sums import sums_from

MOST_LINES = 12


def addable_rows(book, index):
    """Return the list of the ROWS that may be added to a clause; Fails(setting) if a setting is not full as it is."""
    setting = failing_setting(book)
    if setting is not None:
        raise Fails(setting)
    # Of the rows of all clauses that can be ahead of this one in an order, each is free to be put to a row of it.
    ahead = [row for _, row in laid_out(book, [other for other in range(len(book[1])) if other != index])]
    return sorted(sums_from(clause_rows(book, index)[0], ahead))


def struck_lots(book):
    """Return the list of the least lots of lines to be left out; TooMany(12) if there are more lines than that."""
    demand_tight(book)
    lines = [(clause, line) for clause in range(len(book[1])) for line in range(len(book[1][clause]))]
    if len(lines) > MOST_LINES:
        raise TooMany(MOST_LINES)
    found = []
    for size in range(len(lines) + 1):
        for lot in combinations(lines, size):
            if not _has_one_of(lot, found) and _all_full(_without_lines(book, lot)):
                found.append(lot)
    return sorted(found)


def _has_one_of(lot, lots):
    """Tell whether all of some other lot is in a lot."""
    for other in lots:
        if not [part for part in other if part not in lot]:
            return True
    return False


def _all_full(book):
    """Tell whether each clause of a book has a line, and all settings are full."""
    return is_tight(book) and flat_order(book) is not None


def _without_lines(book, lot):
    """Return the book without a lot of lines."""
    many, clauses = book
    return (many, tuple([_lines_left(clause, index, lot) for index, clause in enumerate(clauses)]))


def _lines_left(clause, index, lot):
    return tuple([part for line, part in enumerate(clause) if (index, line) not in lot])
