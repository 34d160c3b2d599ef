"""A book under change, and duties of it that hold all the time."""

from eithersums.books import with_clause, without_clause
from eithersums.errors import Broken, Nothing, Wrong
from eithersums.forms import is_book, is_clause, is_index, is_line
from eithersums.misses import miss_of
from eithersums.orders import failing_setting
from eithersums.settings import is_tight
from eithersums.solver import model_with, solve


class Live:
    """A BOOK that is changed clause by clause, as far as its DUTIES are not broken."""

    def __init__(self, book):
        if not is_book(book):
            raise Wrong(0)
        self._book = book
        self._duties = ()
        # States, tuples (book, duties): those to which back leads, and those to which again does, the next one last.
        self._behind = []
        self._ahead = []

    def __eq__(self, other):
        return isinstance(other, Live) and self._book == other._book and self._duties == other._duties

    def add(self, clause):
        """Put a CLAUSE behind all others; Broken(index, shown) if a DUTY would not hold then."""
        if not is_clause(self._book[0], clause):
            raise Wrong(0)
        self._change_book(with_clause(self._book, clause))

    def drop(self, index):
        """Take the clause at an index out; Broken(index, shown) if a DUTY would not hold then."""
        if not is_index(len(self._book[1]), index):
            raise Wrong(0)
        self._change_book(without_clause(self._book, index))

    def bind(self, duty):
        """Put a DUTY behind all others; Broken(index, shown), index being how many there are, if it does not hold."""
        if not _is_duty(self._book[0], duty):
            raise Wrong(0)
        _demand_duty(self._book, len(self._duties), duty)
        self._change(self._book, self._duties + (duty,))

    def free(self, index):
        """Take the DUTY at an index out, and return it."""
        if not is_index(len(self._duties), index):
            raise Wrong(0)
        duty = self._duties[index]
        self._change(self._book, self._duties[:index] + self._duties[index + 1:])
        return duty

    def book_now(self):
        """Return the book."""
        return self._book

    def duties_now(self):
        """Return the list of the DUTIES."""
        return list(self._duties)

    def answer(self):
        """Return ("model", bits) with a MODEL of the book, or ("paper", paper) with a PAPER that REFUTES it."""
        return solve(self._book)

    def weighs(self, clause):
        """Return a model that misses a CLAUSE, None if no model does."""
        if not is_clause(self._book[0], clause):
            raise Wrong(0)
        miss = miss_of(clause)
        return None if miss is None else model_with(self._book, miss)

    def back(self):
        """Take back the last change that stands; Nothing() if there is none."""
        self._go(self._behind, self._ahead)

    def again(self):
        """Do the change again that was taken back last; Nothing() if there is none, or another one was done since."""
        self._go(self._ahead, self._behind)

    def twin(self):
        """Return an independent Live in the same state, with all that can be taken back and done again."""
        other = Live(self._book)
        other._duties = self._duties
        other._behind = list(self._behind)
        other._ahead = list(self._ahead)
        return other

    def _change_book(self, book):
        """Go on to a book if all DUTIES hold of it."""
        for index, duty in enumerate(self._duties):
            _demand_duty(book, index, duty)
        self._change(book, self._duties)

    def _change(self, book, duties):
        """Go on to a state."""
        self._behind.append((self._book, self._duties))
        self._ahead = []
        self._book = book
        self._duties = duties

    def _go(self, states, others):
        """Go to the last one of some states, and put the one that is left to others."""
        if not states:
            raise Nothing()
        others.append((self._book, self._duties))
        self._book, self._duties = states.pop()


def _is_duty(many, thing):
    """Tell whether a value is a DUTY of books with so many unknowns."""
    if not isinstance(thing, tuple):
        return False
    if thing[:1] == ("sure",):
        return is_line(many, thing[1:])
    return thing == ("model",) or thing == ("full",)


def _demand_duty(book, index, duty):
    """Raise Broken(index, shown) if a DUTY does not hold of a book."""
    if duty[0] == "full":
        _demand_full(book, index)
        return
    if duty[0] == "sure":
        other = model_with(book, ((duty[1], 1 - duty[2]),))
        if other is not None:
            raise Broken(index, other)
    kind, shown = solve(book)
    if kind == "paper":
        raise Broken(index, shown)


def _demand_full(book, index):
    """Raise Broken(index, shown) if a book is not TIGHT, or not all its settings are full."""
    if not is_tight(book):
        raise Broken(index, None)
    setting = failing_setting(book)
    if setting is not None:
        raise Broken(index, setting)
