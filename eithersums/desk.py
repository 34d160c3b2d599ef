"""A desk at which a book is changed and asked by lines of words."""

from eithersums.errors import Broken, NoCommand, Nothing, Wrong
from eithersums.heart import heart
from eithersums.live import Live
from eithersums.reader import clause_told, index_told, line_told, read_book, words_of
from eithersums.solver import least_model
from eithersums.texts import show_book, show_line

CHANGES = ("add", "drop", "bind", "free", "back", "again")
COMMANDS_OF_ONE_WORD = ("back", "again", "book", "duties", "models", "heart")


class Desk:
    """A Live of a book that is read from a text, led by commands."""

    def __init__(self, text):
        # What is no text is refused by read_book in the same words: Wrong(0).
        self._live = Live(read_book(text))

    def execute(self, line):
        """Do what a line says, and return the list of the lines of the answer; NoCommand() if it is no command."""
        if not isinstance(line, str):
            raise Wrong(0)
        words = words_of(line)
        if len(words) == 1 and words[0] in COMMANDS_OF_ONE_WORD:
            told = None
        else:
            told = _told(self._live, words)
            if told is None:
                raise NoCommand()
        if words[0] in CHANGES:
            return _changed(self._live, words[0], told)
        return _answered(self._live, words[0], told)

    def live(self):
        """Return a twin of the Live."""
        return self._live.twin()


def _told(live, words):
    """Return what the words of a command behind the first one show, None if they are none that such a command has."""
    many, clauses = live.book_now()
    if words[:1] in (["add"], ["weigh"]):
        return clause_told(many, words[1:])
    if words[:1] == ["bind"]:
        return _duty_told(many, words[1:])
    if len(words) == 2 and words[0] == "drop":
        return index_told(len(clauses), words[1])
    if len(words) == 2 and words[0] == "free":
        return index_told(len(live.duties_now()), words[1])
    return None


def _duty_told(many, words):
    """Return the DUTY of a book of so many unknowns that words show, None if they show none."""
    if words in (["model"], ["full"]):
        return (words[0],)
    if len(words) != 2 or words[0] != "sure":
        return None
    line = line_told(many, words[1])
    return None if line is None else ("sure", *line)


def _changed(live, word, told):
    """Do one of the changes, and return what is answered."""
    try:
        _change(live, word, told)
    except (Broken, Nothing):
        return ["refused"]
    return ["done"]


def _change(live, word, told):
    """Do one of the changes."""
    if word == "add":
        live.add(told)
    elif word == "drop":
        live.drop(told)
    elif word == "bind":
        live.bind(told)
    elif word == "free":
        live.free(told)
    elif word == "back":
        live.back()
    else:
        live.again()


def _answered(live, word, told):
    """Return what is answered to a question."""
    book = live.book_now()
    if word == "book":
        return show_book(book).split("\n")
    if word == "duties":
        return [_show_duty(duty) for duty in live.duties_now()]
    if word == "models":
        return ["none"] if least_model(book) is None else ["some"]
    if word == "heart":
        return [" ".join([str(index) for index in heart(book)]) or "-"]
    return ["said"] if live.weighs(told) is None else ["news"]


def _show_duty(duty):
    """Return the words of a DUTY, as they stand behind bind."""
    return "sure " + show_line(duty[1:]) if duty[0] == "sure" else duty[0]
