"""The errors of the program.

ValueError itself keeps what an error is made of as its args, so no constructor calls that of a base.
"""


class SumError(ValueError):
    """What every error of the program is; it is raised nowhere itself."""


class Broken(SumError):
    """A duty would not hold: its index, and what shows it."""

    def __init__(self, index, shown):
        self.index = index
        self.shown = shown


class Fails(SumError):
    """A setting is not full."""

    def __init__(self, setting):
        self.setting = setting


class HasModel(SumError):
    """The book has a model: these bits."""

    def __init__(self, bits):
        self.bits = bits


class NoCommand(SumError):
    """A line is no command."""

    def __init__(self):
        pass


class NoModel(SumError):
    """The book has no model: the paper refutes it."""

    def __init__(self, paper):
        self.paper = paper


class NoText(SumError):
    """A text shows nothing: the index of its first bad line."""

    def __init__(self, line):
        self.line = line


class NotApart(SumError):
    """Some bits are in the misses of two clauses."""

    def __init__(self, one, other):
        self.one = one
        self.other = other


class NotFull(SumError):
    """A setting is not full: the rows of this lot are () together."""

    def __init__(self, lot):
        self.lot = lot


class NotKept(SumError):
    """Bits miss the clause with this index."""

    def __init__(self, index):
        self.index = index


class NotTight(SumError):
    """The book is not tight."""

    def __init__(self):
        pass


class NotWhole(SumError):
    """The misses are not all bits: these are in none."""

    def __init__(self, bits):
        self.bits = bits


class Nothing(SumError):
    """There is nothing to take back, or to do again."""

    def __init__(self):
        pass


class TooMany(SumError):
    """There are more than this many."""

    def __init__(self, most):
        self.most = most


class Wrong(SumError):
    """The argument at this place is not as described."""

    def __init__(self, place):
        self.place = place
