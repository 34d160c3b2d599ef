"""What several tests need: values of all kinds, all things of a few unknowns, and plain readings of [2]."""

import copy
import random
from itertools import combinations, product

from eithersums.errors import Broken, NotTight, SumError, Wrong

HUGE = 10 ** 39


def nested(depth, inner, kind):
    """Return a value with so many lists, tuples or dicts one in the other."""
    value = inner
    for _ in range(depth):
        value = {(1,): value} if kind is dict else kind([value])
    return value


def any_values():
    """Return values of all kinds that [4] names, deep and wide ones too; just a few are of a form of [2]."""
    plain = [None, True, False, 0, 1, 2, -1, HUGE, -HUGE, "", "0", "unknowns 1", "a # b\n\n ~", "0" * 3000]
    owned = [SumError(), Wrong(0), Broken(0, [1]), NotTight()]
    empty = [(), [], {}]
    flat = [(0,), [0], {0: 0}, (True,), (False,), (None,), ("0",), ((),), [[]], (SumError(),), ({},), ([],)]
    mixed = [(0, ()), (1, ((((0,), 0),),)), [1, ()], (1, []), (True, ()), (False, ()), (0, None), (0, 0), ("0", ())]
    deep = [nested(20, inner, kind) for inner in (0, None, (), []) for kind in (list, tuple, dict)]
    wide = [[0] * 6000, (0,) * 6000, tuple(range(6000)), tuple([None] * 6000), {k: [k] for k in range(2000)}]
    wide += [((0,), 1) * 1500, tuple([((k,), 0) for k in range(1500)]), tuple([()] * 3000)]
    return plain + owned + empty + flat + mixed + deep + wide


def spoil(value):
    """Change every list and dict in a value."""
    if isinstance(value, (tuple, list)):
        for part in value:
            spoil(part)
    if isinstance(value, list):
        value.append("spoiled")
        del value[:-1]
    if isinstance(value, dict):
        value.clear()
        value["spoiled"] = 1


def steady(test, function, *args):
    """Call a function three times, and check what [3] says of each; return what it returns."""
    before = repr(args)
    first = function(*args)
    shown = repr(first)
    spoil(first)
    test.assertEqual(repr(args), before, "an argument was changed")
    test.assertEqual(repr(function(*copy.deepcopy(args))), shown, "equal arguments, unlike results")
    last = function(*args)
    test.assertEqual(repr(last), shown, "what was returned is not new")
    return last


def same(test, found, wanted, why=None):
    """Check that two values are equal, and of one kind in each part."""
    test.assertEqual(repr(found), repr(wanted), why)


def sums_of(many):
    """Return all SUMS of so many unknowns."""
    return [row for size in range(many + 1) for row in combinations(range(many), size)]


def lines_of(many):
    """Return all LINES of so many unknowns, ascending."""
    return sorted([(row, bit) for row in sums_of(many) if row for bit in (0, 1)])


def clauses_up_to(many, size):
    """Return all CLAUSES of so many unknowns with at most so many lines."""
    return [clause for k in range(size + 1) for clause in combinations(lines_of(many), k)]


def all_bits(many):
    """Return all BITS, ascending."""
    return list(product((0, 1), repeat=many))


def plain_together(sums):
    """Return what is in an odd number of sums, counted one by one."""
    members = sorted(set([unknown for row in sums for unknown in row]))
    return tuple([unknown for unknown in members if len([row for row in sums if unknown in row]) % 2 == 1])


def plain_holds(line, bits):
    """Tell whether a line holds, by its words."""
    return len([unknown for unknown in line[0] if bits[unknown] == 1]) % 2 == line[1]


def plain_keeps(clause, bits):
    """Tell whether bits keep a clause, by its words."""
    return len([line for line in clause if plain_holds(line, bits)]) > 0


def is_plain_flat(clause):
    """Tell whether a CLAUSE is a FLAT: each head in no other row."""
    return not [1 for one, other in product(range(len(clause)), repeat=2)
                if one != other and clause[one][0][0] in clause[other][0]]


def flats_up_to(many, size):
    """Return all FLATS of so many unknowns with at most so many lines."""
    return [clause for clause in clauses_up_to(many, size) if is_plain_flat(clause)]


def bits_at(many, lines):
    """Return all BITS at which all lines hold."""
    return [bits for bits in all_bits(many) if all(plain_holds(line, bits) for line in lines)]


def chance(seed):
    """Return a source of numbers that are the same each time."""
    return random.Random(seed)


def some_row(source, many):
    """Return a ROW of so many unknowns."""
    row = ()
    while row == ():
        row = tuple([unknown for unknown in range(many) if source.random() < 0.4])
    return row


def some_clause(source, many, most):
    """Return a CLAUSE with at most so many lines, at least one."""
    count = source.randrange(1, most + 1)
    return tuple(sorted(set([(some_row(source, many), source.randrange(2)) for _ in range(count)])))


def full_clause(source, many, count):
    """Return a CLAUSE with just so many lines."""
    clause = ()
    while len(clause) < count:
        clause = tuple(sorted(set(clause + ((some_row(source, many), source.randrange(2)),))))
    return clause


def great_book(seed):
    """Return a BOOK at the bounds: 12 unknowns, 24 clauses, six lines in each."""
    source = chance(seed)
    return (12, tuple([full_clause(source, 12, 6) for _ in range(24)]))


def some_book(seed, many, count, most):
    """Return a BOOK of so many unknowns and clauses, each with at most so many lines."""
    source = chance(seed)
    return (many, tuple([some_clause(source, many, most) for _ in range(count)]))
