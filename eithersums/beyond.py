"""How many clauses more than their rank a lot has.

A CHOICE is a dict from clauses to the index of one of their lines each, such that the rows of these lines are
independent. A row that is OF them is so in just one way; its OWNERS are the clauses whose rows make it up.
"""

from itertools import combinations

from eithersums.errors import TooMany
from eithersums.sums import basis_of, rank_of, used_by

MOST_CLAUSES = 12


def rank_of_lot(book, lot):
    """Return the RANK of a LOT of a book."""
    return rank_of([row for index in lot for row, _ in book[1][index]])


def beyond_of(book, lot):
    """Return how many clauses a LOT has less its RANK."""
    return len(lot) - rank_of_lot(book, lot)


def greatest_beyond(book):
    """Return the greatest number beyond its rank that a lot of a book has."""
    # Of each lot a choice has at most as many clauses as its rank is; so at least its number is left over.
    return len(clauses_left(book, greatest_choice(book)))


def lots_beyond(book):
    """Return the list of all lots with the greatest number; TooMany(12) if the book has more clauses than that."""
    count = len(book[1])
    if count > MOST_CLAUSES:
        raise TooMany(MOST_CLAUSES)
    choice = greatest_choice(book)
    owners = owners_of(book, choice)
    left = clauses_left(book, choice)
    found = []
    for size in range(count + 1):
        for lot in combinations(range(count), size):
            # Such a lot has all that is left over, and as its rank just its rows of the choice: so these own all.
            if not [1 for index in left if index not in lot] and _has_owners(owners, lot):
                found.append(lot)
    return sorted(found)


def greatest_choice(book):
    """Return a CHOICE with as many clauses as there can be."""
    choice = {}
    while True:
        owners = owners_of(book, choice)
        reached = reached_from(owners, clauses_left(book, choice))
        clause = _first_without_owners(owners, reached)
        if clause is None:
            return choice
        # If this clause has a line already, one that led to it has no owners then, a step nearer to those left over.
        choice[clause] = owners[clause].index(None)


def clauses_left(book, choice):
    """Return the list of the clauses of which a CHOICE has no line."""
    return [index for index in range(len(book[1])) if index not in choice]


def owners_of(book, choice):
    """Return for each clause the list that has for each line the OWNERS of its row, None if it is not OF the choice."""
    clauses = list(choice)
    basis = basis_of([book[1][clause][choice[clause]][0] for clause in clauses])
    return [[_named(clauses, used_by(basis, row)) for row, _ in clause] for clause in book[1]]


def reached_from(owners, clauses):
    """Return the list of all clauses that are reached from some by going to owners, the nearest ones first."""
    reached = {clause: True for clause in clauses}
    latest = clauses
    while latest:
        behind = []
        for owner in [owner for clause in latest for found in owners[clause] for owner in found or ()]:
            if owner not in reached:
                reached[owner] = True
                behind.append(owner)
        latest = behind
    return list(reached)


def _named(clauses, used):
    return None if used is None else [clauses[index] for index in used]


def _first_without_owners(owners, clauses):
    """Return the first of some clauses that has a row without owners, None if there is none."""
    for clause in clauses:
        if None in owners[clause]:
            return clause
    return None


def _has_owners(owners, lot):
    """Tell whether all rows of the clauses of a lot have all their owners in it."""
    for index in lot:
        for found in owners[index]:
            if found is None or [1 for owner in found if owner not in lot]:
                return False
    return True
