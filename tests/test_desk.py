"""[36]: a desk that leads a Live by lines, against a second plain reading of the lines."""

import re
import time
import unittest

from eithersums.desk import Desk
from eithersums.errors import Broken, NoCommand, NoText, Nothing, Wrong
from eithersums.heart import heart
from eithersums.live import Live
from eithersums.reader import read_book
from eithersums.texts import show_book
from tests.helpers import (any_values, chance, great_book, ordered_book, plain_keeps, plain_models, same, some_clause,
                           some_row, spoil, steady, whole_book)
from tests.plain_live import Plain

NUMBER = r"(?:0|[1-9][0-9]*)"
LINE = rf"{NUMBER}(?:\+{NUMBER})*=[01]"
CLAUSE = rf"clause (?:never|{LINE}(?: or {LINE})*)"
CHANGES = ("add", "drop", "bind", "free", "back", "again")
TEXT = "unknowns 2\nclause 0=0 or 0+1=1\nclause 1=1"

SESSION = """
book => unknowns 2 / clause 0=0 or 0+1=1 / clause 1=1
duties =>
models => some
heart => -
bind full => done
bind model => done
bind sure 1=1 => done
bind sure 0+1=1 => done
bind sure 0=1 => refused
duties => full / model / sure 1=1 / sure 0+1=1
drop 0 => refused
free 0 => done
drop 0 => refused
free 2 => done
drop 0 => done
add clause 0=1 => done
add clause 1=0 => refused
add clause never => refused
weigh clause 0=1 => said
weigh clause 0=0 or 1=1 => said
weigh clause 0=0 => news
weigh clause never => news
back => done
weigh clause 0=1 => news
again => done
again => refused
book => unknowns 2 / clause 1=1 / clause 0=1
free 1 => done
free 0 => done
add clause 1=0 => done
models => none
heart => 0 2
weigh clause never => said
bind model => refused
duties =>
"""

BLANKS = """
 models => some
models   => some
models# => some
   models   # drop 0 => some
  weigh    clause   1=1 # or => said
weigh clause  0=0   or    1=1 => said
weigh clause 0=1   or 1=1 => said
weigh clause 0=1 # or 1=1 => news
bind   sure   1=1#= => done
heart#heart => -
bind model#bind full => done
duties => sure 1=1 / model
"""

OF_NO_UNKNOWNS = """
book => unknowns 0
heart => -
models => some
bind full => done
back => done
back => refused
weigh clause never => news
add clause never => done
heart => 0
models => none
weigh clause never => said
bind full => refused
again => refused
drop 0 => done
book => unknowns 0
"""

# Of a book of two unknowns and three clauses, with one duty; the first two lines have no word.
NO_COMMANDS = """
 # book
#
books
Book
BOOK
book 0
book book
back back
again 1
duties 0
models all
heart 0
model
full
sure 0=0
clause 0=0
unknowns 2
add
add clause
add never
add 0=0
add clause 2=0
add clause 0=2
add clause 1=0 or 0=0
add clause 1+0=0
add clause 0+0=0
add clause 0=0 or 0=0
add clause 0=0 or
add clause or 0=0
add clause 0=0 0=1
add clause 0=0 and 1=0
add clause never or 0=0
add clause 0=0 or never
add clause never never
add clause 00=0
add clause +0=0
add clause 0=00
add clause 0=+0
add clause 0= 0
add clause 0 =0
add clause =0
add clause 0
add clause 0=
add clause 0=0=0
add clause 0=0,1=0
add clause clause 0=0
addclause 0=0
add Clause 0=0
add#clause 0=0
weigh
weigh clause
weigh never
weigh clause 2=0
weigh clause 1=0 or 0=0
weigh clause 0=0 0
weigh 0=0
drop
drop 3
drop -1
drop 00
drop 01
drop +1
drop 0 0
drop x
drop 1.0
drop 1_0
drop 0x0
drop 0=0
drop clause 0
drop all
free
free 1
free -1
free 00
free 0 0
free model
bind
bind models
bind model model
bind model full
bind full 0
bind sure
bind sure 0
bind sure 0=2
bind sure 0=0 1=0
bind sure 0=0 or 1=0
bind sure 2=0
bind sure 1+0=0
bind sure 0+0=0
bind sure =0
bind sure 00=0
bind sure 0=-0
bind sure 0 = 0
bind sure clause 0=0
bind never
bind 0=0
execute book
live
answer
twin
weighs clause 0=0
0
"""


def plain_words(line):
    """Return the words of a line with one blank between two."""
    return re.sub(" +", " ", line.split("#", 1)[0]).strip(" ")


def read_line(many, text):
    """Return the LINE that a text of the form LINE shows, None if it is none of so many unknowns."""
    left, right = text.split("=")
    row = tuple([int(part) for part in left.split("+")])
    return (row, int(right)) if list(row) == sorted(set(row)) and row[-1] < many else None


def read_clause(many, text):
    """Return the CLAUSE that a text of the form CLAUSE shows, None if it is none of so many unknowns."""
    if text == "clause never":
        return ()
    lines = [read_line(many, part) for part in text[len("clause "):].split(" or ")]
    return tuple(lines) if None not in lines and lines == sorted(set(lines)) else None


def plain_command(state, line):
    """Return the name of a command and what it is given, None if a line is no command of a book and duties."""
    text = plain_words(line)
    (many, clauses), duties = state
    if text in ("back", "again", "book", "duties", "models", "heart"):
        return (text,)
    if text in ("bind model", "bind full"):
        return ("bind", (text[len("bind "):],))
    found = re.fullmatch(f"bind sure ({LINE})", text)
    if found:
        shown = read_line(many, found[1])
        return None if shown is None else ("bind", ("sure", *shown))
    found = re.fullmatch(f"(drop|free) ({NUMBER})", text)
    if found:
        count = len(clauses if found[1] == "drop" else duties)
        return (found[1], int(found[2])) if int(found[2]) < count else None
    found = re.fullmatch(f"(add|weigh) ({CLAUSE})", text)
    if found:
        shown = read_clause(many, found[2])
        return None if shown is None else (found[1], shown)
    return None


def show_row(row):
    return "+".join([str(unknown) for unknown in row])


def plain_answer(state, name, given):
    """Return what should be answered to a question about a book and duties."""
    book, duties = state
    if name == "book":
        return show_book(book).split("\n")
    if name == "duties":
        return [duty[0] if len(duty) == 1 else f"sure {show_row(duty[1])}={duty[2]}" for duty in duties]
    if name == "models":
        return ["some"] if plain_models(book) else ["none"]
    if name == "heart":
        return [" ".join([str(index) for index in heart(book)])] if heart(book) else ["-"]
    return ["news"] if [bits for bits in plain_models(book) if not plain_keeps(given[0], bits)] else ["said"]


def plain_did(plain, name, given):
    """Do a change with a plain model; return whether it was done."""
    if name in ("back", "again"):
        return getattr(plain, name)()
    state = plain.changed(name, *given)
    if plain.broken(*state) is not None:
        return False
    plain.go(state)
    return True


def live_did(live, name, given):
    """Do a change with a Live; return whether it was done."""
    try:
        getattr(live, name)(*given)
    except (Broken, Nothing):
        return False
    return True


def state_of(live):
    return (live.book_now(), tuple(live.duties_now()))


def some_line(source, state):
    """Return a line, often a command of a book and duties."""
    (many, clauses), duties = state
    clause = some_clause(source, many, 3)
    shown = "clause " + " or ".join([f"{show_row(row)}={bit}" for row, bit in clause])
    row = show_row(some_row(source, many))
    lines = [f"add {shown}"] * 3 + [f"weigh {shown}"] * 2 + ["back", "again"] * 2 + ["bind model", "bind full", "models"]
    lines += [f"drop {source.randrange(len(clauses) + 2)}", f"free {source.randrange(len(duties) + 1)}"]
    lines += [f"bind sure {row}={source.randrange(2)}", "book", "duties", "heart", "add clause never", "weigh clause never"]
    line = source.choice(lines)
    if source.random() < 0.3:
        line = line.replace(" ", source.choice(("  ", "   ", " ")))
    if source.random() < 0.2:
        line = source.choice((" ", "  ")) + line + source.choice((" ", " # drop 0", "# a\nb # c", "#", "   #\n\n"))
    if source.random() < 0.15:
        place = source.randrange(len(line) + 1)
        sign = source.choice(("\n", "0", "+", "=", " ", "#", "-", "x", " 0", " or ", ""))
        line = line[:place] + sign + line[place + source.randrange(2):]
    return line


class TestCommands(unittest.TestCase):
    def test_long_rows(self):
        seen = {}
        for seed in range(20):
            source = chance(seed)
            book = ordered_book(seed, 1 + seed % 4, 2)
            desk, plain = Desk(show_book(book)), Plain(book)
            for _ in range(150):
                line = some_line(source, plain.now())
                command = plain_command(plain.now(), line)
                if command is None:
                    with self.assertRaises(NoCommand, msg=line):
                        desk.execute(line)
                    seen["none"] = seen.get("none", 0) + 1
                else:
                    name, *given = command
                    if name in CHANGES:
                        wanted = ["done"] if plain_did(plain, name, given) else ["refused"]
                    else:
                        wanted = plain_answer(plain.now(), name, given)
                    same(self, desk.execute(line), wanted, line)
                    key = (name, "" if name in ("book", "duties", "heart") else wanted[0])
                    seen[key] = seen.get(key, 0) + 1
                same(self, state_of(desk.live()), plain.now(), line)
        for name, answers in (("add", "done refused"), ("bind", "done refused"), ("back", "done refused"), ("free", "done"),
                              ("again", "done refused"), ("drop", "done refused"), ("weigh", "said news"),
                              ("models", "some none")):
            for answer in answers.split():
                self.assertGreater(seen.get((name, answer), 0), 1, (name, answer, seen))
        self.assertGreater(seen["none"], 100)

    def session(self, desk, text):
        """Check lines, each with => and its answer behind it, the lines of the answer with / between them."""
        for row in text.strip("\n").split("\n"):
            line, _, answer = row.partition("=>")
            same(self, desk.execute(line), [part.strip() for part in answer.split("/")] if answer.strip() else [], line)

    def test_lines(self):
        self.session(Desk(TEXT), SESSION)

    def test_blanks_and_remarks(self):
        desk = Desk(TEXT)
        self.session(desk, BLANKS)
        for line in ("models#\n", "models # a\nheart # b\n", "models #\n\n", " models  # ~\n#"):
            same(self, desk.execute(line), ["some"], line)

    def test_no_commands(self):
        desk = Desk(TEXT + "\nclause 0+1=1")
        desk.execute("bind model")
        before = (desk.live(), desk.execute("book"), desk.execute("duties"))
        feeds = ["\n", "\n\n", "book\n", "\nbook", "book \n", "b\nook", "book\nbook", "add clause\n0=0", "add clause 0=0\n",
                 "drop 0\n", "free 0\n", "bind\nmodel", "bind sure\n0=0", "bind model\n#", "book\tbook", "book\t", "\tbook"]
        long = ["a" * 3000, " " * 3000, "drop " + "9" * 40, "drop 1" + "0" * 50, "free " + "0" * 40]
        for line in [*NO_COMMANDS.split("\n"), *feeds, *long]:
            with self.assertRaises(NoCommand, msg=line):
                desk.execute(line)
            same(self, plain_command(state_of(desk.live()), line), None, line)
        same(self, [desk.live() == before[0], desk.execute("book"), desk.execute("duties")], [True, *before[1:]])
        same(self, desk.execute("back"), ["done"])

    def test_a_book_of_no_unknowns(self):
        desk = Desk("unknowns 0")
        self.session(desk, OF_NO_UNKNOWNS)
        for line in ("add clause 0=0", "bind sure 0=0", "drop 0", "free 0"):
            self.assertRaises(NoCommand, desk.execute, line)


class TestDesk(unittest.TestCase):
    def test_texts(self):
        for text in (TEXT, "unknowns 0", " unknowns  3 # a\n\nclause never\n# b", "unknowns " + "9" * 40):
            same(self, Desk(text).live().book_now(), read_book(text))
            self.assertTrue(Desk(text).live() == Live(read_book(text)))

    def test_bad_texts(self):
        for text in ("", "\n\n", "clause 0=0", "unknowns 1\nclause 1=0", "unknowns 1\n\nclause 0=0\nunknowns 1",
                     "unknowns x", "# a\nunknowns 01",
                     "unknowns 2\nclause 1=0 or 0=0\nx", "unknowns " + "9" * 41):
            with self.assertRaises(NoText) as wanted:
                read_book(text)
            with self.assertRaises(NoText) as caught:
                Desk(text)
            same(self, caught.exception.line, wanted.exception.line)
        with self.assertRaises(NoText) as caught:
            Desk("unknowns 2\n\n# c\nclause 0=0 or 2=0\nbad")
        same(self, caught.exception.line, 3)

    def test_wrong_values(self):
        desk = Desk(TEXT)
        before = desk.live()
        for value in [*any_values(), b"book", ["book"], ("book",)]:
            if not isinstance(value, str):
                for call in (Desk, desk.execute):
                    with self.assertRaises(Wrong, msg=value) as caught:
                        call(value)
                    same(self, caught.exception.place, 0)
            else:
                self.assertRaises(NoCommand, desk.execute, value)
        self.assertTrue(desk.live() == before)

    def test_live_is_a_twin(self):
        desk = Desk(TEXT)
        desk.execute("add clause 0=0")
        desk.execute("bind model")
        desk.execute("back")
        live = desk.live()
        same(self, [type(live), live.duties_now(), live.book_now()[1][2]], [Live, [], (((0,), 0),)])
        live.again()
        live.drop(0)
        same(self, [len(desk.live().book_now()[1]), desk.execute("duties"), desk.execute("again"), desk.execute("duties")],
             [3, [], ["done"], ["model"]])
        same(self, [desk.live() == live, live.duties_now()], [False, [("model",)]])
        other = desk.live()
        other.back()
        other.back()
        same(self, [other.book_now(), desk.execute("book")[-1]], [read_book(TEXT), "clause 0=0"])

    def test_answers_are_new(self):
        desk = Desk(TEXT)
        desk.execute("bind model")
        for line in ("book", "duties", "models", "heart", "weigh clause 0=0"):
            same(self, steady(self, desk.execute, line), desk.execute(line))
            spoil(desk.execute(line))
            desk.execute(line).clear()
            self.assertNotIn("spoiled", desk.execute(line))


class TestBounds(unittest.TestCase):
    def test_great_books(self):
        begun = time.time()
        for seed, book in enumerate((great_book(6), whole_book(6, 12, 23), (12, great_book(7)[1][:12]))):
            source = chance(seed)
            desk, live = Desk(show_book(book)), Live(book)
            lines = ["bind model", "bind full", "heart", "models", "book", "weigh clause 0=0 or 1=0", "drop 3", "bind model"]
            for line in lines + [some_line(source, state_of(live)) for _ in range(40)]:
                command = plain_command(state_of(live), line)
                if command is None:
                    self.assertRaises(NoCommand, desk.execute, line)
                elif command[0] in CHANGES:
                    same(self, desk.execute(line), ["done"] if live_did(live, command[0], command[1:]) else ["refused"], line)
                else:
                    same(self, desk.execute(line), plain_answer(state_of(live), command[0], command[1:]), line)
        self.assertLess(time.time() - begun, 60)


if __name__ == "__main__":
    unittest.main()
