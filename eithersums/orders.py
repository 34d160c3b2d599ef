"""Orders of the clauses of tight books: there is one exactly if all settings are full."""

from eithersums.flats import flat_of, reduced
from eithersums.forms import is_index, is_sum
from eithersums.settings import clause_rows, demand_tight
from eithersums.sums import together


def flat_order(book):
    """Return an ORDER of a book, None if there is none."""
    demand_tight(book)
    order = tuple([index for index, _ in laid_out(book, list(range(len(book[1]))))])
    return order if len(order) == len(book[1]) else None


def is_order(book, thing):
    """Tell whether a value is an ORDER of a book."""
    demand_tight(book)
    if not _is_arrangement(book, thing):
        return False
    flat = ()
    for index in thing:
        rests = [reduced(flat, row) for row in clause_rows(book, index)]
        if not _are_one_row(rests):
            return False
        flat = flat_of([*flat, (rests[0], 0)])
    return True


def forms_of(book, order):
    """Return FORMS by an ORDER."""
    demand_tight(book)
    forms = []
    ahead = ()
    for index in order:
        rows = clause_rows(book, index)
        flat = flat_of([*ahead, *[(row, 1) for row in rows]])
        # If all other unknowns are 0, heads have the bits of their lines: so these rows have an odd number in common.
        forms.append(tuple([row[0] for row, bit in flat if bit]))
        ahead = flat_of([*ahead, *[(row, 0) for row in rows]])
    return tuple(forms)


def are_forms(book, arrangement, thing):
    """Tell whether a value is FORMS by an arrangement."""
    demand_tight(book)
    if not isinstance(thing, tuple) or len(thing) != len(arrangement):
        return False
    for place, form in enumerate(thing):
        if not is_sum(book[0], form) or not _is_form(book, arrangement, place, form):
            return False
    return True


def failing_setting(book):
    """Return a SETTING that is not full, None if all are."""
    if flat_order(book) is not None:
        return None
    setting = []
    for index in range(len(book[1])):
        narrowed = [_with_line_alone(book, index, line) for line in range(len(book[1][index]))]
        # A setting that is not full has some line of this clause.
        line = [flat_order(other) for other in narrowed].index(None)
        setting.append(line)
        book = narrowed[line]
    return tuple(setting)


def laid_out(book, indexes):
    """Return the list of some clauses, as many as can be, one behind the other as in an ORDER.

    Each is a tuple (index, row): all rows of the clause are this row together with rows of those ahead of it.
    """
    left = {index: clause_rows(book, index) for index in indexes}
    found = []
    while True:
        ripe = [index for index in left if _are_one_row(left[index])]
        if not ripe:
            return found
        row = left[ripe[0]][0]
        found.append((ripe[0], row))
        left = {index: _without_head(left[index], row) for index in left if index != ripe[0]}


def _are_one_row(sums):
    return sums[0] != () and sums == [sums[0]] * len(sums)


def _without_head(sums, row):
    """Return sums, a row put to those in which its head is."""
    return [together([other, row]) if row[0] in other else other for other in sums]


def _is_arrangement(book, thing):
    """Tell whether a value is an ARRANGEMENT of the clauses of a book."""
    count = len(book[1])
    if not isinstance(thing, tuple) or not all([is_index(count, part) for part in thing]):
        return False
    return sorted(thing) == list(range(count))


def _is_form(book, arrangement, place, form):
    """Tell whether a SUM is what FORMS by an arrangement have at a place."""
    own = [_is_odd_with(row, form) for row in clause_rows(book, arrangement[place])]
    ahead = [_is_odd_with(row, form) for index in arrangement[:place] for row in clause_rows(book, index)]
    return False not in own and True not in ahead


def _is_odd_with(row, form):
    """Tell whether a row has an odd number of unknowns in common with a SUM."""
    return len([unknown for unknown in row if unknown in form]) & 1 == 1


def _with_line_alone(book, index, line):
    """Return the book in which a clause has one of its lines alone."""
    clauses = book[1]
    return (book[0], clauses[:index] + ((clauses[index][line],),) + clauses[index + 1:])
