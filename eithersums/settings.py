"""Settings of tight books, which have a line of each clause, and as many clauses as unknowns."""

from eithersums.beyond import greatest_choice
from eithersums.errors import NotFull, NotTight
from eithersums.flats import flat_of
from eithersums.heart import heart
from eithersums.sums import dependent_lot


def chosen_lines(book, setting):
    """Return the tuple of the lines of a SETTING."""
    demand_tight(book)
    return tuple([clause[line] for clause, line in zip(book[1], setting)])


def is_full(book, setting):
    """Tell whether a SETTING is FULL."""
    return dependent_lot(chosen_rows(book, setting)) is None


def solution_of(book, setting):
    """Return the SOLUTION of a full SETTING: the bits at which all its lines hold."""
    demand_full(book, setting)
    # There are as many lines as unknowns, so each row of the flat is its head alone.
    return tuple([bit for _, bit in flat_of(chosen_lines(book, setting))])


def some_full(book):
    """Return ("full", setting) with a full SETTING, or ("few", lot) with a LOT whose RANK is below its number."""
    demand_tight(book)
    choice = greatest_choice(book)
    if len(choice) < len(book[1]):
        return ("few", heart(book))
    return ("full", tuple([choice[index] for index in range(len(book[1]))]))


def is_tight(book):
    """Tell whether a book is TIGHT."""
    return len(book[1]) == book[0] and () not in book[1]


def demand_tight(book):
    """Raise NotTight() if a book is not TIGHT."""
    if not is_tight(book):
        raise NotTight()


def demand_full(book, setting):
    """Raise NotTight() if a book is not TIGHT, NotFull(lot) if the SETTING is not FULL."""
    lot = dependent_lot(chosen_rows(book, setting))
    if lot is not None:
        raise NotFull(lot)


def chosen_rows(book, setting):
    """Return the list of the rows of the lines of a SETTING."""
    return [row for row, _ in chosen_lines(book, setting)]


def clause_rows(book, index):
    """Return the list of the rows of the lines of a clause."""
    return [row for row, _ in book[1][index]]
