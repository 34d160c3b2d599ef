"""Papers: steps that show that some flat lies in the misses of a book's clauses."""

from eithersums.flats import is_in, lies_in
from eithersums.forms import is_flat, is_index, is_pair
from eithersums.misses import misses_of
from eithersums.steps import lies_in_both


def is_paper(book, thing):
    """Tell whether a value is a PAPER of a book."""
    if not isinstance(thing, tuple) or len(thing) == 0:
        return False
    misses = misses_of(book)
    for at, step in enumerate(thing):
        if not is_pair(step) or not is_flat(book[0], step[0]):
            return False
        if not _is_shown(misses, thing[:at], step[0], step[1]):
            return False
    return True


def refutes(book, thing):
    """Tell whether a value is a PAPER that REFUTES a book."""
    return is_paper(book, thing) and thing[-1][0] == ()


def shortened(paper):
    """Return the paper of just the steps on which the last one leans."""
    places = {old: new for new, old in enumerate(_leant(paper))}
    return tuple([_moved(paper[old], places) for old in places])


def leant_clauses(paper):
    """Return the LOT of the clauses that the steps name on which the last one leans."""
    return tuple(sorted(set([clause for at in _leant(paper) for clause in _clauses_named(paper[at])])))


def lifted(paper, lot):
    """Return the PAPER of a book that is, but for the names of clauses, one of the book of a LOT of it."""
    return tuple([_of_lot(step, lot) for step in paper])


def joined(one, other, flat):
    """Return the steps of two papers, and behind them one of a flat that is said to lie in both together."""
    places = list(range(len(one), len(one) + len(other)))
    behind = tuple([_moved(step, places) for step in other])
    return one + behind + ((flat, ("steps", len(one) - 1, places[-1])),)


def spread(book, paper):
    """Return for each step the ascending tuple of the clauses named by the steps on which it leans."""
    found = []
    for step in paper:
        named = [clause for at in _steps_named(step) for clause in found[at]]
        found.append(tuple(sorted(set([*_clauses_named(step), *named]))))
    return found


def missed_by(book, paper, bits):
    """Return the index of a clause that misses bits of the last flat."""
    reason = paper[-1][1]
    while reason[0] == "steps":
        flat, first = paper[reason[1]]
        reason = first if is_in(flat, bits) else paper[reason[2]][1]
    return reason[1]


def _is_shown(misses, ahead, flat, reason):
    """Tell whether a value is a reason that shows a flat, of clauses with these misses, behind these steps."""
    if not isinstance(reason, tuple):
        return False
    if reason[:1] == ("clause",):
        return _are_indexes(1, len(misses), reason[1:]) and _lies_in_miss(flat, misses[reason[1]])
    if reason[:1] == ("steps",):
        return _are_indexes(2, len(ahead), reason[1:]) and lies_in_both(flat, ahead[reason[1]][0], ahead[reason[2]][0])
    return False


def _are_indexes(count, bound, things):
    """Tell whether values are just so many indexes of so many things."""
    return len(things) == count and all([is_index(bound, thing) for thing in things])


def _lies_in_miss(flat, miss):
    return miss is not None and lies_in(flat, miss)


def _steps_named(step):
    reason = step[1]
    return reason[1:] if reason[0] == "steps" else ()


def _clauses_named(step):
    reason = step[1]
    return reason[1:] if reason[0] == "clause" else ()


def _leant(paper):
    """Return the ascending list of the indexes of the steps on which the last one leans."""
    leant = {len(paper) - 1: True}
    for at in reversed(range(len(paper))):
        if at in leant:
            for named in _steps_named(paper[at]):
                leant[named] = True
    return sorted(leant)


def _moved(step, places):
    """Return a step with new places for the steps that its reason names."""
    flat, reason = step
    if reason[0] == "clause":
        return step
    return (flat, ("steps", places[reason[1]], places[reason[2]]))


def _of_lot(step, lot):
    """Return a step with the name that a clause has in a book for the one in the book of a lot."""
    flat, reason = step
    if reason[0] == "steps":
        return step
    return (flat, ("clause", lot[reason[1]]))
