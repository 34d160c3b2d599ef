"""What several tests need: values of all kinds, all things of a few unknowns, and plain readings of [2]."""

import copy
import random
from itertools import combinations, product

from eithersums.desk import Desk
from eithersums.errors import Broken, HasModel, NotFull, NotTight, SumError, TooMany, Wrong
from eithersums.flats import halves
from eithersums.live import Live

HUGE = 10 ** 39


def nested(depth, inner, kind):
    """Return a value with so many lists, tuples or dicts one in the other."""
    value = inner
    for _ in range(depth):
        value = {(1,): value} if kind is dict else kind([value])
    return value


def any_values():
    """Return values of all kinds that [4] names, deep and wide ones too; just a few are of a form of [2]."""
    plain = [None, True, False, 0, 1, 2, -1, HUGE, -HUGE, "", "0", "unknowns 1", "a # b\n\n ~", "0" * 3000]
    owned = [SumError(), Wrong(0), Broken(0, [1]), NotTight(), Live((1, ())), Desk("unknowns 0")]
    empty = [(), [], {}]
    flat = [(0,), [0], {0: 0}, (True,), (False,), (None,), ("0",), ((),), [[]], (SumError(),), ({},), ([],),
            (Live((0, ())),)]
    mixed = [(0, ()), (1, ((((0,), 0),),)), [1, ()], (1, []), (True, ()), (False, ()), (0, None), (0, 0), ("0", ())]
    deep = [nested(20, inner, kind) for inner in (0, None, (), []) for kind in (list, tuple, dict)]
    wide = [[0] * 6000, (0,) * 6000, tuple(range(6000)), tuple([None] * 6000), {k: [k] for k in range(2000)}]
    wide += [((0,), 1) * 1500, tuple([((k,), 0) for k in range(1500)]), tuple([()] * 3000)]
    return plain + owned + empty + flat + mixed + deep + wide


def spoil(value):
    """Change every list and dict in a value."""
    if isinstance(value, (tuple, list)):
        for part in value:
            spoil(part)
    if isinstance(value, list):
        value.append("spoiled")
        del value[:-1]
    if isinstance(value, dict):
        value.clear()
        value["spoiled"] = 1


def steady(test, function, *args):
    """Call a function three times, and check what [3] says of each; return what it returns."""
    before = repr(args)
    first = function(*args)
    shown = repr(first)
    spoil(first)
    test.assertEqual(repr(args), before, "an argument was changed")
    test.assertEqual(repr(function(*copy.deepcopy(args))), shown, "equal arguments, unlike results")
    last = function(*args)
    test.assertEqual(repr(last), shown, "what was returned is not new")
    return last


def same(test, found, wanted, why=None):
    """Check that two values are equal, and of one kind in each part."""
    test.assertEqual(repr(found), repr(wanted), why)


def sums_of(many):
    """Return all SUMS of so many unknowns."""
    return [row for size in range(many + 1) for row in combinations(range(many), size)]


def lines_of(many):
    """Return all LINES of so many unknowns, ascending."""
    return sorted([(row, bit) for row in sums_of(many) if row for bit in (0, 1)])


def clauses_up_to(many, size):
    """Return all CLAUSES of so many unknowns with at most so many lines."""
    return [clause for k in range(size + 1) for clause in combinations(lines_of(many), k)]


def all_bits(many):
    """Return all BITS, ascending."""
    return list(product((0, 1), repeat=many))


def plain_together(sums):
    """Return what is in an odd number of sums, counted one by one."""
    members = sorted(set([unknown for row in sums for unknown in row]))
    return tuple([unknown for unknown in members if len([row for row in sums if unknown in row]) % 2 == 1])


def plain_holds(line, bits):
    """Tell whether a line holds, by its words."""
    return len([unknown for unknown in line[0] if bits[unknown] == 1]) % 2 == line[1]


def plain_keeps(clause, bits):
    """Tell whether bits keep a clause, by its words."""
    return len([line for line in clause if plain_holds(line, bits)]) > 0


def is_plain_flat(clause):
    """Tell whether a CLAUSE is a FLAT: each head in no other row."""
    return not [1 for one, other in product(range(len(clause)), repeat=2)
                if one != other and clause[one][0][0] in clause[other][0]]


def flats_up_to(many, size):
    """Return all FLATS of so many unknowns with at most so many lines."""
    return [clause for clause in clauses_up_to(many, size) if is_plain_flat(clause)]


def bits_at(many, lines):
    """Return all BITS at which all lines hold."""
    return [bits for bits in all_bits(many) if all(plain_holds(line, bits) for line in lines)]


def chance(seed):
    """Return a source of numbers that are the same each time."""
    return random.Random(seed)


def some_row(source, many):
    """Return a ROW of so many unknowns."""
    row = ()
    while row == ():
        row = tuple([unknown for unknown in range(many) if source.random() < 0.4])
    return row


def some_clause(source, many, most):
    """Return a CLAUSE with at most so many lines, at least one."""
    count = source.randrange(1, most + 1)
    return tuple(sorted(set([(some_row(source, many), source.randrange(2)) for _ in range(count)])))


def full_clause(source, many, count):
    """Return a CLAUSE with just so many lines."""
    clause = ()
    while len(clause) < count:
        clause = tuple(sorted(set(clause + ((some_row(source, many), source.randrange(2)),))))
    return clause


def great_book(seed):
    """Return a BOOK at the bounds: 12 unknowns, 24 clauses, six lines in each."""
    source = chance(seed)
    return (12, tuple([full_clause(source, 12, 6) for _ in range(24)]))


def some_book(seed, many, count, most):
    """Return a BOOK of so many unknowns and clauses, each with at most so many lines."""
    source = chance(seed)
    return (many, tuple([some_clause(source, many, most) for _ in range(count)]))


def plain_models(book):
    """Return all bits that keep all clauses of a book."""
    return [bits for bits in all_bits(book[0]) if all(plain_keeps(clause, bits) for clause in book[1])]


def plain_missed(many, clause):
    """Return all bits that a clause misses."""
    return [bits for bits in all_bits(many) if not plain_keeps(clause, bits)]


def plain_span(sums):
    """Return the set of what some of these sums, perhaps none, are together."""
    found = {()}
    for row in sums:
        found |= {plain_together([row, other]) for other in found}
    return found


def plain_rank(sums):
    """Return the rank of sums: what some of them are together are 2 ** rank sums."""
    return len(plain_span(sums)).bit_length() - 1


def all_lots(count):
    """Return all LOTS of so many clauses."""
    return [lot for size in range(count + 1) for lot in combinations(range(count), size)]


def is_strict_integer(thing):
    return type(thing) is int


def is_strict_bit(thing):
    return type(thing) is int and thing in (0, 1)


def is_strict_row(many, thing):
    """Tell whether a value is a ROW, by its words."""
    if type(thing) is not tuple or not thing or not all(is_strict_integer(part) for part in thing):
        return False
    return list(thing) == sorted(set(thing)) and thing[0] >= 0 and thing[-1] < many


def is_strict_flat(many, thing):
    """Tell whether a value is a FLAT, by its words."""
    if type(thing) is not tuple or not all(type(line) is tuple and len(line) == 2 for line in thing):
        return False
    if not all(is_strict_row(many, row) and is_strict_bit(bit) for row, bit in thing):
        return False
    return list(thing) == sorted(set(thing)) and is_plain_flat(thing)


def is_strict_line(many, thing):
    """Tell whether a value is a LINE, by its words."""
    return type(thing) is tuple and len(thing) == 2 and is_strict_row(many, thing[0]) and is_strict_bit(thing[1])


def is_strict_clause(many, thing):
    """Tell whether a value is a CLAUSE, by its words."""
    if type(thing) is not tuple or not all(is_strict_line(many, line) for line in thing):
        return False
    return list(thing) == sorted(set(thing))


def is_strict_book(thing):
    """Tell whether a value is a BOOK, by its words."""
    if type(thing) is not tuple or len(thing) != 2 or not is_strict_integer(thing[0]) or thing[0] < 0:
        return False
    return type(thing[1]) is tuple and all(is_strict_clause(thing[0], clause) for clause in thing[1])


def is_strict_duty(many, thing):
    """Tell whether a value is a DUTY, by its words."""
    if type(thing) is not tuple or not thing or type(thing[0]) is not str:
        return False
    if thing[0] == "sure":
        return len(thing) == 3 and is_strict_row(many, thing[1]) and is_strict_bit(thing[2])
    return thing in (("model",), ("full",))


def is_strict_lot(book, thing):
    """Tell whether a value is a LOT of a book, by its words."""
    return thing == () and type(thing) is tuple or is_strict_row(len(book[1]), thing)


def plain_leaves(tree, lines=()):
    """Return the leaves of a tree, each with the lines answered on the way to it."""
    if tree[0] == "end":
        return [(tree[1], lines)]
    _, row, zero, unit = tree
    return plain_leaves(zero, lines + ((row, 0),)) + plain_leaves(unit, lines + ((row, 1),))


def plain_is_tree(book, thing):
    """Tell whether a value is a TREE of a book, by its words."""
    if type(thing) is not tuple or not thing or type(thing[0]) is not str:
        return False
    if thing[0] == "end":
        return len(thing) == 2 and is_strict_integer(thing[1]) and 0 <= thing[1] < len(book[1])
    if thing[0] != "ask" or len(thing) != 4 or not is_strict_row(book[0], thing[1]):
        return False
    return plain_is_tree(book, thing[2]) and plain_is_tree(book, thing[3])


def together_of(lines):
    """Return the line that lines are together."""
    return (plain_together([row for row, _ in lines]), sum(bit for _, bit in lines) % 2)


def dressed(source, flat, most):
    """Return a CLAUSE, with some sums of the flat's lines beside others, whose miss is a flat of at most so many lines."""
    lines = list(flat)
    for _ in range(2 * len(flat)):
        one, other = source.randrange(len(lines)), source.randrange(len(lines))
        if one != other:
            lines[one] = together_of([lines[one], lines[other]])
    for _ in range(20):
        if len(flat) > 1 and len(set(lines)) < most:
            lines.append(together_of(source.sample(lines[:len(flat)], source.randrange(2, len(flat) + 1))))
    return tuple(sorted(set([(row, 1 - bit) for row, bit in lines])))


def parted_flats(seed, many, count):
    """Return so many flats, of at most six lines each, such that each bits are in just one of them."""
    source = chance(seed)
    flats = [()]
    while len(flats) < count:
        flat = source.choice([one for one in flats if len(one) < min(6, many)])
        cut = halves(flat, some_row(source, many))
        if cut is not None:
            flats.remove(flat)
            flats.extend(cut)
    return flats


def whole_book(seed, many, count):
    """Return a BOOK of so many clauses, of at most six lines each: of each bits just one clause misses them."""
    source = chance(seed)
    clauses = [dressed(source, flat, 6) for flat in parted_flats(seed, many, count)]
    source.shuffle(clauses)
    return (many, tuple(clauses))


def crowded_book(seed, many, count):
    """Return a BOOK of so many clauses without a model, some of whose misses meet."""
    source = chance(seed)
    flats = parted_flats(seed, many, min(count, 1 << (many - 1)) * 2 // 3)
    wider = [tuple([line for line in flat if source.random() < 0.9 or len(flat) < 3]) for flat in flats]
    clauses = [dressed(source, flat, 6) for flat in wider]
    while len(clauses) < count:
        clauses.append(some_clause(source, many, 6))
    source.shuffle(clauses)
    return (many, tuple(clauses))


def small_books_without():
    """Return books without a model, of at most four unknowns, some with clauses twice or that never miss."""
    ever = (((0,), 0), ((0,), 1))
    found = [(0, ((),)), (0, ((), ())), (1, ((),)), (1, ((((0,), 0),), (((0,), 1),))), (3, (ever, ())), (4, (ever, ()))]
    for seed in range(14):
        many = 1 + seed % 4
        book = whole_book(seed, many, min(2 + seed, 1 << many))
        found += [book, (many, book[1] + (book[1][0], ever))]
        source = chance(seed)
        found.append((many, tuple([some_clause(source, many, 3) for _ in range(3)]) + book[1]))
    return found


def books_with_a_model():
    """Return books with a model: of a few unknowns, of more than four, at the bounds, without clauses."""
    return [(0, ()), (1, ()), (4, ()), (2, ((((0,), 1),),)), (5, ((((4,), 0),),)), (12, ()), great_book(3)]


def books_of_five_without():
    """Return books without a model that have just more than four unknowns, and many more."""
    return [(5, ((),)), (5, ((((0,), 0),), (((0,), 1),))), (12, ((),)), whole_book(5, 5, 9), whole_book(6, 12, 24)]


def demands_no_model(test, function, *args):
    """Check that a function of a book raises HasModel(bits), then TooMany(4), whatever else is handed in."""
    for book in books_with_a_model():
        with test.assertRaises(HasModel) as caught:
            function(book, *args)
        test.assertTrue(len(caught.exception.bits) == book[0])
        test.assertTrue(all(plain_keeps(clause, caught.exception.bits) for clause in book[1]))
    for book in books_of_five_without():
        with test.assertRaises(TooMany) as caught:
            function(book, *args)
        same(test, caught.exception.most, 4)


def variants(value):
    """Return values that are otherwise than a value of tuples, integers and strings, each in some place of it."""
    found = [None, (value,), [value]]
    if type(value) is tuple:
        found += [list(value), value[::-1], value[:-1], value[1:], value + value[-1:], value + (0,), value + (None,), {}]
        for at, part in enumerate(value):
            found += [value[:at] + (other,) + value[at + 1:] for other in variants(part)]
            found += [value[:at] + value[at + 1:], value[:at] + value[at:at + 2][::-1] + value[at + 2:]]
    elif type(value) is int:
        found += [value + 1, value - 1, value + 2, -1, 0, HUGE, -HUGE, True, False, str(value)]
    elif type(value) is str:
        found += [value + " ", " " + value, value.upper(), "", 0]
    return [other for other in found if repr(other) != repr(value)]


def some_left_out(seed, many, count):
    """Return a BOOK that is apart: some clauses of a whole one, and some that miss nothing among them."""
    source = chance(seed)
    clauses = [clause for clause in whole_book(seed, many, count)[1] if source.random() < 0.7]
    for _ in range(source.randrange(3)):
        row = some_row(source, many)
        clauses.insert(source.randrange(len(clauses) + 1), ((row, 0), (row, 1)))
    return (many, tuple(clauses))


def not_apart_books():
    """Return books of some of whose misses some bits are in two, with models and without."""
    zero, unit, ever = (((0,), 0),), (((0,), 1),), (((0,), 0), ((0,), 1))
    found = [(0, ((), ())), (1, (zero, ever, zero)), (2, (unit, ever, zero, (((1,), 1),))), (1, ((),) * 3)]
    return found + [(3, (zero, (), unit)), (3, (zero, zero)), crowded_book(4, 12, 24)]


def tight_book(seed, many, most):
    """Return a TIGHT BOOK of so many unknowns, each of its clauses with at most so many lines."""
    source = chance(seed)
    return (many, tuple([some_clause(source, many, most) for _ in range(many)]))


def independent_rows(source, many):
    """Return so many independent ROWS of so many unknowns: one for each head, mixed and in any order."""
    rows = []
    for unknown in range(many):
        rows.append((unknown, *[other for other in range(unknown + 1, many) if source.random() < 0.4]))
    for _ in range(3 * many):
        one, other = source.randrange(many), source.randrange(many)
        if one != other:
            rows[one] = plain_together([rows[one], rows[other]])
    source.shuffle(rows)
    return rows


def ordered_book(seed, many, most):
    """Return a TIGHT BOOK all of whose settings are full, its clauses with at most so many lines, in any order."""
    source = chance(seed)
    base = independent_rows(source, many)
    clauses = []
    for place, row in enumerate(base):
        lines = []
        for _ in range(source.randrange(1, most + 1)):
            ahead = [other for other in base[:place] if source.random() < 0.5]
            lines.append((plain_together([row, *ahead]), source.randrange(2)))
        clauses.append(tuple(sorted(set(lines))))
    source.shuffle(clauses)
    return (many, tuple(clauses))


def tight_books():
    """Return tight books of at most four unknowns: with an order and without, with a full setting and without."""
    zero, ever, first = (((0,), 0),), (((0,), 0), ((0,), 1)), (((0,), 0), ((0, 1), 1))
    both = (2, ((((0,), 0), ((0, 1), 0)), (((0, 1), 1), ((1,), 0))))
    found = [(0, ()), (1, (zero,)), (1, (ever,)), (2, (zero, zero)), (2, (first, (((1,), 0),))), both]
    found += [(2, (ever, ever)), (2, (ever, ((*first, ((1,), 0), ((1,), 1))))), (3, (ever, ever, (((1,), 0), ((2,), 0))))]
    found += [tight_book(seed, 1 + seed % 4, 1 + seed % 3) for seed in range(48)]
    found += [ordered_book(seed, 1 + seed % 4, 1 + seed % 5) for seed in range(32)]
    return found + [ring_book(seed, 2 + seed % 3) for seed in range(9)]


def ring_book(seed, many):
    """Return a TIGHT BOOK with a ring of all its clauses, led to other unknowns."""
    source = chance(seed)
    base = independent_rows(source, many)
    clauses = []
    for place, row in enumerate(base):
        other = plain_together([row, base[(place + 1) % many]])
        clauses.append(tuple(sorted([(row, source.randrange(2)), (other, source.randrange(2))])))
    source.shuffle(clauses)
    return (many, tuple(clauses))


def not_tight_books():
    """Return books that are not tight: with a clause more or less than unknowns, or one without a line."""
    zero, unit = (((0,), 0),), (((0,), 1),)
    found = [(0, ((),)), (1, ()), (1, ((),)), (1, (zero, unit)), (2, (zero,)), (2, (zero, ())), (2, ((), ())), (3, ())]
    return found + [great_book(1), (12, great_book(1)[1][:11]), (12, great_book(1)[1][:11] + ((),))]


def all_settings(book):
    """Return all SETTINGS of a book."""
    return list(product(*[range(len(clause)) for clause in book[1]]))


def plain_rows(book, setting):
    """Return the rows of the lines of a setting."""
    return [clause[line][0] for clause, line in zip(book[1], setting)]


def is_plain_full(book, setting):
    """Tell whether a setting is full: no lot of its rows is () together."""
    return plain_rank(plain_rows(book, setting)) == len(setting)


def demands_tight(test, *calls):
    """Check that each call, a function and what it is passed behind the book, raises NotTight() ahead of all else."""
    for book in not_tight_books():
        for function, *args in calls:
            with test.assertRaises(NotTight, msg=(book, function)):
                function(book, *args)


def demands_full(test, *calls):
    """Check that each call, a function and what it is passed behind a setting, raises NotFull(lot) if it is not full."""
    count = 0
    for book in tight_books():
        for setting in [one for one in all_settings(book) if not is_plain_full(book, one)][:20]:
            for function, *args in calls:
                with test.assertRaises(NotFull, msg=(book, function)) as caught:
                    function(book, setting, *args)
                lot = caught.exception.lot
                test.assertTrue(is_strict_lot(book, lot) and lot != (), lot)
                same(test, plain_together([plain_rows(book, setting)[index] for index in lot]), ())
                count += 1
    test.assertGreater(count, 100)
