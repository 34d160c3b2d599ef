"""Reads books and papers from texts.

What ends in _told returns what words show, None if they do not show such a thing.
"""

from eithersums.errors import NoText, Wrong
from eithersums.forms import is_book, is_clause, is_flat, is_line

MOST_DIGITS = 40


def read_book(text):
    """Return the BOOK that a text shows; NoText(line) with the first bad line."""
    if not isinstance(text, str):
        raise Wrong(0)
    lines = _lines_with_words(text)
    if not lines:
        raise NoText(_lines_many(text))
    first, words = lines[0]
    many = unknowns_told(words)
    if many is None:
        raise NoText(first)
    clauses = []
    for index, words in lines[1:]:
        clause = clause_told(many, words)
        if clause is None:
            raise NoText(index)
        clauses.append(clause)
    return (many, tuple(clauses))


def read_paper(book, text):
    """Return the PAPER that a text shows, be it one of the book or not; NoText(line) with the first bad line."""
    if not is_book(book):
        raise Wrong(0)
    if not isinstance(text, str):
        raise Wrong(1)
    steps = []
    for index, words in _lines_with_words(text):
        step = step_told(book, len(steps), words)
        if step is None:
            raise NoText(index)
        steps.append(step)
    if not steps:
        raise NoText(_lines_many(text))
    return tuple(steps)


def words_of(line):
    """Return the words of a line, without its remark; nothing but a blank stands between words."""
    return [word for word in line.partition("#")[0].split(" ") if word != ""]


def number_told(word):
    """Return the number that a word shows."""
    if not (word.isascii() and word.isdigit()) or len(word) > MOST_DIGITS:
        return None
    if word.startswith("0") and word != "0":
        return None
    return int(word)


def index_told(count, word):
    """Return the index that a word shows, of one of so many things."""
    number = number_told(word)
    return number if number is not None and number < count else None


def line_told(many, word):
    """Return the LINE of so many unknowns that a word shows."""
    left, _, right = word.partition("=")
    line = (tuple([number_told(part) for part in left.split("+")]), number_told(right))
    return line if is_line(many, line) else None


def unknowns_told(words):
    """Return the number of unknowns that words show."""
    if len(words) != 2 or words[0] != "unknowns":
        return None
    return number_told(words[1])


def clause_told(many, words):
    """Return the CLAUSE of so many unknowns that words show."""
    if words[:1] != ["clause"]:
        return None
    if words[1:] == ["never"]:
        return ()
    lines = _lines_told(many, words[1:], "or")
    return lines if is_clause(many, lines) else None


def flat_told(many, words):
    """Return the FLAT of so many unknowns that words show."""
    if words == ["all"]:
        return ()
    lines = _lines_told(many, words, "and")
    return lines if is_flat(many, lines) else None


def reason_told(book, count, words):
    """Return the reason that words show, behind so many steps."""
    if words[:1] == ["clause"]:
        bounds = [len(book[1])]
    elif words[:1] == ["steps"]:
        bounds = [count, count]
    else:
        return None
    if len(words) != len(bounds) + 1:
        return None
    indexes = [index_told(bound, word) for bound, word in zip(bounds, words[1:])]
    return None if None in indexes else (words[0], *indexes)


def step_told(book, count, words):
    """Return the STEP that words show, behind so many steps."""
    if "by" not in words:
        return None
    place = words.index("by")
    flat = flat_told(book[0], words[:place])
    reason = reason_told(book, count, words[place + 1:])
    return None if flat is None or reason is None else (flat, reason)


def _lines_told(many, words, between):
    """Return the tuple of LINES that words show with a word between two, in their order."""
    if len(words) % 2 == 0 or [word for word in words[1::2] if word != between]:
        return None
    lines = [line_told(many, word) for word in words[::2]]
    return None if None in lines else tuple(lines)


def _lines_with_words(text):
    """Return, for each line that has words, its index and these words."""
    told = [(index, words_of(line)) for index, line in enumerate(text.split("\n"))]
    return [(index, words) for index, words in told if words]


def _lines_many(text):
    return text.count("\n") + 1
