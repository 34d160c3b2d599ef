"""Liars: dicts of flats by which sums are answered so that no clause is known to be missed for as long as can be."""

from eithersums.asks import demand_askable, heights_and_trees, missers_on, rows_untold
from eithersums.flats import halves, told_on
from eithersums.forms import is_flat, is_integer
from eithersums.misses import misses_of


def liar_of(book):
    """Return a LIAR of a book whose NUMBER is the least height of a tree that finds; {} if this is 0."""
    demand_askable(book)
    best = heights_and_trees(book)
    # A height above 0 is one more than that of a half, by each row.
    return {flat: best[flat][0] for flat in sorted(best) if best[flat][0] > 0}


def is_liar(book, thing):
    """Tell whether a value is a LIAR of a book for some number."""
    demand_askable(book)
    if not isinstance(thing, dict) or () not in thing:
        return False
    misses = misses_of(book)
    for flat, number in thing.items():
        if not is_flat(book[0], flat) or not is_integer(number) or number < 1 or missers_on(misses, flat):
            return False
    for flat, number in thing.items():
        if number > 1 and not _goes_on(book[0], thing, flat):
            return False
    return True


def answers_by(book, liar, rows):
    """Return the worths that a LIAR answers to rows, one behind the other, and the flat that is left."""
    demand_askable(book)
    flat = ()
    worths = []
    for row in rows:
        worth = told_on(flat, row)
        if worth is None:
            parts = halves(flat, row)
            worth = 0 if _is_enough(liar, flat, parts[0]) else 1
            flat = parts[worth]
        worths.append(worth)
    return (tuple(worths), flat)


def _goes_on(many, liar, flat):
    """Tell whether by each row one of the halves of a flat is there with a number that is enough."""
    for row in rows_untold(many, flat):
        if not [half for half in halves(flat, row) if _is_enough(liar, flat, half)]:
            return False
    return True


def _is_enough(liar, flat, half):
    """Tell whether a half of a flat is there with a number that is not less than the flat's less 1."""
    return half in liar and liar[half] >= liar[flat] - 1
