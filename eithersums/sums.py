"""Sums of unknowns: their worth, their rank, and which of them make up another one."""


def together(sums):
    """Return the SUM that sums are together: the unknowns that are in an odd number of them."""
    odd = {}
    for row in sums:
        for unknown in row:
            if unknown in odd:
                del odd[unknown]
            else:
                odd[unknown] = True
    return tuple(sorted(odd))


def worth_of(row, bits):
    """Return the WORTH of a SUM at bits."""
    return sum([bits[unknown] for unknown in row]) & 1


def rank_of(sums):
    """Return the RANK of sums."""
    return len(independent_among(sums))


def sum_by(sums, row):
    """Return the indexes of sums that are a SUM together, None if it is not OF them."""
    return used_by(basis_of(sums), row)


def dependent_lot(sums):
    """Return indexes, at least one, of sums that are () together, None if they are independent."""
    lots = dependent_lots(sums)
    return lots[0] if lots else None


def independent_among(sums):
    """Return the indexes of the sums that are not OF the ones ahead of them."""
    _, lots = _eliminated(sums)
    return [index for index in range(len(sums)) if index not in lots]


def dependent_lots(sums):
    """Return a lot that is () together for each of the sums OF the ones ahead; all such lots are made of these."""
    _, lots = _eliminated(sums)
    return list(lots.values())


def sums_from(row, others):
    """Return the list of what a SUM and some of the independent others, perhaps none, are together."""
    found = [row]
    for other in others:
        found = found + [together([one, other]) for one in found]
    return found


def basis_of(sums):
    """Return a basis of sums, by which used_by tells the same as sum_by of them."""
    basis, _ = _eliminated(sums)
    return basis


def used_by(basis, row):
    """Return the indexes of the sums behind a basis that are a SUM together, None if it is not OF them."""
    rest, used = _rest(basis, row, ())
    return None if rest else used


def _eliminated(sums):
    """Return a basis of sums, and, for the index of each sum OF the ones ahead, a lot that is ().

    The basis has, for the least unknown of each of its sums, this sum and the indexes that make it up.
    """
    basis = {}
    lots = {}
    for index, row in enumerate(sums):
        rest, used = _rest(basis, row, (index,))
        if rest:
            basis[rest[0]] = (rest, used)
        else:
            lots[index] = used
    return basis, lots


def _rest(basis, row, used):
    """Return what is left of a sum without the basis, and the indexes used, put to those given.

    It is () exactly if the sum is OF the basis: no two sums of the basis have one least unknown.
    """
    while row and row[0] in basis:
        other, others_used = basis[row[0]]
        row = together([row, other])
        # Indexes cancel out in pairs as unknowns do.
        used = together([used, others_used])
    return row, used
