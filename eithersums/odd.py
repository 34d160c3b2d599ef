"""How many settings of a tight book are full, and whether this number is odd."""

from eithersums.errors import TooMany
from eithersums.flats import flat_of, reduced
from eithersums.settings import clause_rows, demand_tight
from eithersums.sums import dependent_lot, together

MOST_SETTINGS = 4096


def clause_sums(book):
    """Return the tuple that has for each clause the SUM of the rows of all its lines together."""
    demand_tight(book)
    return tuple([together(clause_rows(book, index)) for index in range(len(book[1]))])


def is_odd(book):
    """Tell whether the number of full settings is odd."""
    return dependent_lot(clause_sums(book)) is None


def full_many(book):
    """Return the number of full settings; TooMany(4096) if there are more settings than that."""
    demand_tight(book)
    if _settings_many(book) > MOST_SETTINGS:
        raise TooMany(MOST_SETTINGS)
    # Choices whose rows make up the same sums are gone on with as one: these sums are told by the flat where all are 0.
    counts = {(): 1}
    for index in range(len(book[1])):
        longer = {}
        for flat, count in counts.items():
            for row in _rows_untold(flat, clause_rows(book, index)):
                wider = flat_of([*flat, (row, 0)])
                longer[wider] = longer.get(wider, 0) + count
        counts = longer
    return sum(counts.values())


def _settings_many(book):
    many = 1
    for clause in book[1]:
        many = many * len(clause)
    return many


def _rows_untold(flat, rows):
    return [row for row in rows if reduced(flat, row)]
