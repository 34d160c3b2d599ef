"""Tells of any value whether it is an integer, a sum, a line, a clause, a book, and so on."""


def is_integer(thing):
    """Tell whether a value is an integer; a truth is none."""
    return isinstance(thing, int) and not isinstance(thing, bool)


def is_sum(many, thing):
    """Tell whether a value is a SUM of so many unknowns."""
    return isinstance(thing, tuple) and all([is_index(many, part) for part in thing]) and _is_ascending(thing)


def is_row(many, thing):
    """Tell whether a value is a ROW of so many unknowns."""
    return is_sum(many, thing) and len(thing) > 0


def is_line(many, thing):
    """Tell whether a value is a LINE of so many unknowns."""
    return is_pair(thing) and is_row(many, thing[0]) and _is_bit(thing[1])


def is_clause(many, thing):
    """Tell whether a value is a CLAUSE of so many unknowns."""
    if not isinstance(thing, tuple) or not all([is_line(many, part) for part in thing]):
        return False
    return _is_ascending(thing)


def is_book(thing):
    """Tell whether a value is a BOOK, of whatever size."""
    if not is_pair(thing) or not is_integer(thing[0]) or thing[0] < 0:
        return False
    return isinstance(thing[1], tuple) and all([is_clause(thing[0], part) for part in thing[1]])


def are_bits(many, thing):
    """Tell whether a value is BITS of so many unknowns."""
    return isinstance(thing, tuple) and len(thing) == many and all([_is_bit(part) for part in thing])


def is_flat(many, thing):
    """Tell whether a value is a FLAT of so many unknowns."""
    if not is_clause(many, thing):
        return False
    heads = {row[0]: True for row, bit in thing}
    others = [unknown for row, bit in thing for unknown in row[1:]]
    return len(heads) == len(thing) and not any([unknown in heads for unknown in others])


def is_lot(book, thing):
    """Tell whether a value is a LOT of a book."""
    # A lot is of the clauses what a sum is of the unknowns.
    return is_sum(len(book[1]), thing)


def is_setting(book, thing):
    """Tell whether a value is a SETTING of a book, tight or not."""
    clauses = book[1]
    if not isinstance(thing, tuple) or len(thing) != len(clauses):
        return False
    return all([is_index(len(clause), part) for part, clause in zip(thing, clauses)])


def is_pair(thing):
    """Tell whether a value is a tuple of two."""
    return isinstance(thing, tuple) and len(thing) == 2


def is_index(count, thing):
    """Tell whether a value is the index of one of so many things."""
    return is_integer(thing) and 0 <= thing < count


def _is_bit(thing):
    return is_index(2, thing)


def _is_ascending(things):
    return all([one < other for one, other in zip(things, things[1:])])
