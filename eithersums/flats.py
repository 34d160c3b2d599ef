"""Flats: the bits at which some lines hold."""

from eithersums.books import holds
from eithersums.errors import TooMany
from eithersums.sums import together, worth_of

MOST_UNKNOWNS_LISTED = 4


def flat_of(lines):
    """Return the FLAT of the bits at which all lines hold, None if there are none."""
    flat = []
    for line in lines:
        row, bit = _without_heads(flat, line)
        if row:
            flat = [_without_heads([(row, bit)], old) for old in flat] + [(row, bit)]
        elif bit:
            return None
    return tuple(sorted(flat))


def is_in(flat, bits):
    """Tell whether bits are IN a flat."""
    for line in flat:
        if not holds(line, bits):
            return False
    return True


def lies_in(one, other):
    """Tell whether a flat LIES in another one."""
    for row, bit in other:
        if told_on(one, row) != bit:
            return False
    return True


def meet(one, other):
    """Return the FLAT of the bits that are in both, None if there are none."""
    return flat_of([*one, *other])


def reduced(flat, row):
    """Return the SUM that a sum and rows of the flat are together, without a head of the flat."""
    return _without_heads(flat, (row, 0))[0]


def told_on(flat, row):
    """Return the worth that a sum has at all bits of a flat, None if it is not told on it."""
    rest, worth = _without_heads(flat, (row, 0))
    return None if rest else worth


def halves(flat, row):
    """Return the HALVES of a flat by a sum, None if it is told on the flat."""
    if told_on(flat, row) is not None:
        return None
    return (flat_of([*flat, (row, 0)]), flat_of([*flat, (row, 1)]))


def bits_many(many, flat):
    """Return how many bits are in a flat."""
    return 1 << (many - len(flat))


def bits_in(many, flat):
    """Return the list of the bits in a flat."""
    by_head = {line[0][0]: line for line in flat}
    found = [()]
    # From the last unknown on: the bit of a head is told by those of greater unknowns.
    for unknown in reversed(range(many)):
        if unknown in by_head:
            found = [(_bit_ahead(by_head[unknown], bits),) + bits for bits in found]
        else:
            found = [(bit,) + bits for bits in found for bit in (0, 1)]
    return sorted(found)


def least_flat(some):
    """Return the FLAT that has these bits in it and lies in each other one that has."""
    flat = tuple([((unknown,), bit) for unknown, bit in enumerate(some[0])])
    for bits in some[1:]:
        flat = _widened(flat, bits)
    return flat


def all_flats(many):
    """Return the list of all flats; TooMany(4) if there are more unknowns than that."""
    if many > MOST_UNKNOWNS_LISTED:
        raise TooMany(MOST_UNKNOWNS_LISTED)
    found = [()]
    for unknown in reversed(range(many)):
        found = found + [(line,) + flat for flat in found for line in _lines_ahead(many, unknown, flat)]
    return sorted(found)


def _both(one, other):
    """Return rows and bits of two lines together: it holds where both do, and where neither does."""
    return (together([one[0], other[0]]), one[1] ^ other[1])


def _without_heads(flat, line):
    """Return the row, perhaps (), and the bit of a line together with those lines whose heads it has."""
    rest = line
    for other in flat:
        # No head is in the row of another line, so it is enough to ask the row as it was at first.
        if other[0][0] in line[0]:
            rest = _both(rest, other)
    return rest


def _bit_ahead(line, bits):
    """Return the bit of the head of a line, of which bits are the bits of all greater unknowns."""
    row, bit = line
    behind = tuple([unknown - row[0] - 1 for unknown in row[1:]])
    return bit ^ worth_of(behind, bits)


def _widened(flat, bits):
    """Return the least flat that has all bits of a flat and these in it."""
    wrong = [line for line in flat if not holds(line, bits)]
    if not wrong:
        return flat
    # Two lines that do not hold at bits are a line together that does.
    right = [line for line in flat if holds(line, bits)]
    return flat_of(right + [_both(wrong[0], line) for line in wrong[1:]])


def _lines_ahead(many, unknown, flat):
    """Return the lines with a head that may stand ahead of a flat of greater unknowns."""
    heads = [row[0] for row, bit in flat]
    rows = [(unknown,)]
    for other in range(unknown + 1, many):
        if other not in heads:
            rows = rows + [row + (other,) for row in rows]
    return [(row, bit) for row in rows for bit in (0, 1)]
