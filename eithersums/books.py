"""Books of clauses: which bits keep them, and books made out of others."""

from eithersums.errors import TooMany
from eithersums.sums import together, worth_of

MOST_UNKNOWNS = 12


def holds(line, bits):
    """Tell whether a LINE holds at bits."""
    row, bit = line
    return worth_of(row, bits) == bit


def keeps(clause, bits):
    """Tell whether bits keep a CLAUSE."""
    for line in clause:
        if holds(line, bits):
            return True
    return False


def missed(book, bits):
    """Return the indexes of the clauses that miss bits."""
    return [index for index, clause in enumerate(book[1]) if not keeps(clause, bits)]


def models_of(book):
    """Return the list of all models of a BOOK; TooMany(12) if it has more unknowns than that."""
    many, clauses = book
    if many > MOST_UNKNOWNS:
        raise TooMany(MOST_UNKNOWNS)
    found = [] if () in clauses else [()]
    for unknown in range(many):
        # A clause is asked as soon as its bits are there, so that few beginnings are gone on with.
        ripe = [clause for clause in clauses if _last_unknown(clause) == unknown]
        longer = [bits + (bit,) for bits in found for bit in (0, 1)]
        found = [bits for bits in longer if _keeps_all(ripe, bits)]
    return found


def clauses_of(book, lot):
    """Return the book with the clauses of a LOT alone."""
    return (book[0], tuple([book[1][index] for index in lot]))


def with_clause(book, clause):
    """Return the book with a clause more, behind all others."""
    return (book[0], book[1] + (clause,))


def without_clause(book, index):
    """Return the book without the clause at an index."""
    return (book[0], book[1][:index] + book[1][index + 1:])


def renumbered(book, order):
    """Return the book in which the unknown i is what order[i] was."""
    places = {old: new for new, old in enumerate(order)}
    return _with_rows(book, lambda row: tuple(sorted([places[unknown] for unknown in row])))


def led_back(order, bits):
    """Return the bits of a book that tell the same as bits of the renumbered one."""
    told = dict(zip(order, bits))
    return tuple([told[unknown] for unknown in range(len(order))])


def exchanged(book, unknown, other):
    """Return the book in which an unknown has the worth that it and another one had together."""
    return _with_rows(book, lambda row: together([row, (other,)]) if unknown in row else row)


def exchanged_bits(bits, unknown, other):
    """Return what bits become by such an exchange, or were ahead of it."""
    return bits[:unknown] + (bits[unknown] ^ bits[other],) + bits[unknown + 1:]


def _with_rows(book, changed):
    """Return the book with each row changed, the lines of each clause in their order anew."""
    many, clauses = book
    return (many, tuple([tuple(sorted([(changed(row), bit) for row, bit in clause])) for clause in clauses]))


def _last_unknown(clause):
    return max([row[-1] for row, bit in clause], default=-1)


def _keeps_all(clauses, bits):
    for clause in clauses:
        if not keeps(clause, bits):
            return False
    return True
