"""The heart of a book: the least of all lots that go furthest beyond their rank, by which a model is decided."""

from eithersums.beyond import clauses_left, greatest_choice, owners_of, reached_from
from eithersums.books import clauses_of, keeps
from eithersums.errors import NotKept
from eithersums.flats import flat_of
from eithersums.forms import is_index, is_lot, is_pair
from eithersums.sums import rank_of, worth_of


def heart(book):
    """Return the HEART of a book."""
    return _heart_by(book, greatest_choice(book))


def is_deciding(book, thing):
    """Tell whether a value is a DECIDING PAPER of a book."""
    if not is_pair(thing):
        return False
    lot, chosen = thing
    if not is_lot(book, lot) or not _are_lines_beside(book, lot, chosen):
        return False
    rows = _rows_of(book, lot)
    more = [book[1][clause][chosen[clause]][0] for clause in chosen]
    # Each row more adds to the rank exactly if no lot of them is OF the rows of the lot.
    return rank_of(rows + more) == rank_of(rows) + len(more)


def deciding_paper(book):
    """Return the DECIDING PAPER of a book whose lot is the heart."""
    choice = greatest_choice(book)
    lot = _heart_by(book, choice)
    return (lot, {clause: choice[clause] for clause in range(len(book[1])) if clause not in lot})


def led_on(book, bits):
    """Return a model at which the rows of the heart have the worths of bits; NotKept(index) if these miss it."""
    lot, chosen = deciding_paper(book)
    for index in lot:
        if not keeps(book[1][index], bits):
            raise NotKept(index)
    lines = [(row, worth_of(row, bits)) for row in _rows_of(book, lot)]
    flat = flat_of(lines + [book[1][clause][chosen[clause]] for clause in chosen])
    # All unknowns but the heads are free, and heads have the bits of their lines if all others are 0.
    heads = {row[0]: bit for row, bit in flat}
    return tuple([heads.get(unknown, 0) for unknown in range(book[0])])


def heart_book(book):
    """Return the book of the heart of a book."""
    return clauses_of(book, heart(book))


def _heart_by(book, choice):
    """Return the heart, by a greatest choice: what is left over, and all that owns rows of it, and so on."""
    return tuple(sorted(reached_from(owners_of(book, choice), clauses_left(book, choice))))


def _rows_of(book, lot):
    return [row for index in lot for row, _ in book[1][index]]


def _are_lines_beside(book, lot, chosen):
    """Tell whether a value is a dict with the index of a line for just each clause that is not in a lot."""
    if not isinstance(chosen, dict) or len(chosen) != len(book[1]) - len(lot):
        return False
    for clause, line in chosen.items():
        if not is_index(len(book[1]), clause) or clause in lot or not is_index(len(book[1][clause]), line):
            return False
    return True
