"""A plain model of a Live: the book, the duties, and what can be taken back and done again."""

from eithersums.papers import refutes
from tests.helpers import all_settings, is_plain_full, plain_holds, plain_models

MODEL, FULL = ("model",), ("full",)


def is_tight(book):
    return len(book[1]) == book[0] and all(len(clause) > 0 for clause in book[1])


def holds_duty(book, duty):
    """Tell whether a DUTY holds of a book, by all bits or all settings."""
    if duty == FULL:
        return is_tight(book) and all(is_plain_full(book, setting) for setting in all_settings(book))
    models = plain_models(book)
    return models != [] and (duty == MODEL or all(plain_holds(duty[1:], bits) for bits in models))


def shows(book, duty, shown):
    """Tell whether something shows that a DUTY does not hold of a book, as [35] says for each kind of duty."""
    if duty == FULL:
        if not is_tight(book):
            return shown is None
        return shown in all_settings(book) and not is_plain_full(book, shown)
    models = plain_models(book)
    if not models:
        return refutes(book, shown)
    return duty != MODEL and shown in models and not plain_holds(duty[1:], shown)


class Plain:
    """What a Live should be: the states up to now, and those taken back."""

    def __init__(self, book):
        self.states = [(book, ())]
        self.taken_back = []

    def now(self):
        return self.states[-1]

    def history(self):
        """Return the state, how many states back leads to, and all states, those that again leads to last."""
        return [self.now(), len(self.states) - 1, self.states + self.taken_back[::-1]]

    def broken(self, book, duties):
        """Return the least index of a duty that does not hold."""
        found = [index for index, duty in enumerate(duties) if not holds_duty(book, duty)]
        return found[0] if found else None

    def changed(self, name, given):
        """Return the state behind a change."""
        book, duties = self.now()
        if name == "add":
            return ((book[0], book[1] + (given,)), duties)
        if name == "drop":
            return ((book[0], book[1][:given] + book[1][given + 1:]), duties)
        if name == "bind":
            return (book, duties + (given,))
        return (book, duties[:given] + duties[given + 1:])

    def go(self, state):
        self.states.append(state)
        self.taken_back = []

    def back(self):
        """Take back the last change; return whether there is one."""
        if len(self.states) > 1:
            self.taken_back.append(self.states.pop())
            return True
        return False

    def again(self):
        """Do the change again that was taken back last; return whether there is one."""
        if self.taken_back:
            self.states.append(self.taken_back.pop())
            return True
        return False
