"""Two flats together: whether all bits of a flat are in them, and which row parts it between them."""

from eithersums.flats import halves, lies_in, reduced


def lies_in_both(flat, one, other):
    """Tell whether each bits of a flat are in the flat one or in the flat other."""
    return cut_by(flat, one, other) is not None


def cut_by(flat, one, other):
    """Return the ROW whose HALVES of a flat lie in two flats, () if the flat lies in one of them, None if neither."""
    if lies_in(flat, one) or lies_in(flat, other):
        return ()
    for line in one:
        row = reduced(flat, line[0])
        if row:
            # A half that lies in one tells all rows of one, but just one that the flat itself does not tell.
            return row if _parts(row, flat, one, other) else None
    return None


def _parts(row, flat, one, other):
    """Tell whether the halves of a flat by a row lie the one in one, the other in other."""
    zero, unit = halves(flat, row)
    if lies_in(zero, one):
        return lies_in(unit, other)
    return lies_in(unit, one) and lies_in(zero, other)
