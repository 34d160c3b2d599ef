"""[16]: reading books and papers."""

import re
import unittest

from eithersums.errors import NoText, SumError, Wrong
from eithersums.reader import read_book, read_paper
from eithersums.texts import show_book, show_paper
from tests.helpers import (HUGE, any_values, chance, flats_up_to, great_book, is_plain_flat, same, some_book, steady,
                           sums_of)

FORTY = "9" * 40

# Words that are BAD behind `clause` in a book of three unknowns: of another form, or beyond.
BAD_CLAUSES = [
    "", "or", "0=0 or", "or 0=0", "0=0 1=0", "0=0 or or 1=0", "0=0 and 1=0", "0=0 OR 1=0", "0=0 or 1=0 and 2=0",
    "0=0 or 1=0 2=0", "never never", "never or 0=0", "0=0 or never", "all", "Never", "clause 0=0", "0=0 by clause 0",
    "3=0", "0+3=1", "0=0 or 3=1", "12=0", "1+0=1", "0+0=1", "2+0=1", "0+1+1=0", "0+2+1=0", "1=0 or 0=0", "0=1 or 0=0",
    "0=0 or 0=0", "0+1=0 or 0=0", "0=0 or 2=1 or 1=0", "0=0 or 1=0 or 1=0", "=0", "+=0", "0+=0", "+0=0", "0++1=0", "0",
    "0=", "0=2", "0=-1", "0=00", "0=01", "0==1", "0=0=0", "-0=0", "-1=0", "00=0", "01=0", "0+01=0", "0=+1", "0 = 0",
    "0 =0", "0= 0", "0 + 1=0", "0+ 1=0", "a=0", "0=a", "0.0=0", "0,1=0", "0x1=0", "1_0=0", "0=0;", "0=0,", "=", "+", "-",
    "0" * 41 + "=0", "0" * 39 + "1=0", "1" * 40 + "=0", "1" * 41 + "=0", "0=" + "0" * 40, "0+" + "1" * 40 + "=1",
    "0=0or 1=0", "0=0 or1=0", "0=0or1=0", "0=0\\", "(0)=0", "0!=0", "0=!0", "0~1=0", "0=True", "None",
]
BAD_BOOK_LINES = ["clause " + words for words in BAD_CLAUSES] + [
    "clauses 0=0", "Clause 0=0", "claus 0=0", "0=0", "0=0 or 1=0", "never", "all", "x", "=", "clause0=0", "clausenever",
    "unknowns 3", "unknowns 0", "unknowns", "all by clause 0", "0=0 by clause 0", "or clause 0=0", "clause, 0=0",
    "-clause 0=0", "by", "0",
]
BAD_UNKNOWNS = [
    "unknowns", "unknowns -1", "unknowns +1", "unknowns -0", "unknowns 00", "unknowns 01", "unknowns 1 2", "unknowns x",
    "unknowns 1.0", "unknowns 1_0", "unknowns " + "1" * 41, "unknowns " + "0" * 40, "unknowns 0" + "1" * 39, "Unknowns 1",
    "unknown 1", "unknowns1", "unknowns=1", "1", "clause 0=0", "clause never", "all by clause 0", "1 unknowns",
    "unknowns unknowns", "unknowns 1,", "unknowns None", "unknowns 1 clause 0=0",
]
# Steps that are BAD in a paper of a book of three unknowns and two clauses, behind two steps.
BAD_FLATS = [
    "", "and", "0=0 and", "and 0=0", "0=0 1=0", "0=0 or 1=0", "0=0 and and 1=0", "0=0 AND 1=0", "all all", "all and 0=0",
    "0=0 and all", "All", "never", "clause", "3=0", "0+3=0", "2+0=1", "0+0=1", "1=0 and 0=0", "0=0 and 0=0",
    "0=0 and 0=1", "0=1 and 0=0", "0=0 and 0+1=0", "0+1=0 and 1=0", "0+1=0 and 0+2=0", "0+2=1 and 1+2=0 and 2=0",
    "0+1+2=0 and 1+2=0", "=0", "0", "0=", "0=2", "00=0", "01=0", "-0=0", "+0=0", "0 = 0", "0" * 41 + "=0",
    "1" * 40 + "=0", "1" * 41 + "=0", "by", "by clause 0 by clause 0", "0=0 by", "0=0,", "a=0", "0=a", "clause 0=0",
]
BAD_REASONS = [
    "", "by", "by clause", "by clause 2", "by clause 0 1", "by clause 00", "by clause 01", "by clause -0", "by clause +1",
    "by clause -1", "by clause x", "by clause 1.0", "by clause " + "1" * 40, "by clause " + "0" * 41, "by clauses 0",
    "by Clause 0", "by clause0", "by clause 0 by clause 0", "by by clause 0", "clause 0", "steps 0 1", "by 0", "by 0 1",
    "by steps", "by steps 0", "by steps 0 2", "by steps 2 0", "by steps 2 2", "by steps 0 1 1", "by steps 00 1",
    "by steps 0 01", "by steps -1 0", "by steps 0 +1", "by steps x 0", "by steps 0 x", "by steps 0 " + "1" * 40,
    "by steps " + "1" * 41 + " 0", "by step 0", "by Steps 0 1", "by steps 0,1", "By clause 0", "by steps 0 and 1",
    "by clause never", "by clause 0 or 1", "by steps0 1",
]
BAD_STEPS = ["0=0 " + words for words in BAD_REASONS] + ["all " + words for words in BAD_REASONS[:4]]
BAD_STEPS += [words + " by clause 0" for words in BAD_FLATS] + [words + " by steps 0 1" for words in BAD_FLATS[:4]]
BAD_STEPS += ["unknowns 3", "clause 0=0", "clause never", "all", "0=0", "by clause 0", "x", "never by clause 0"]

BOOK = (3, ((((0,), 0),), (((1, 2), 1),)))
STEPS = "all by clause 0\n0=0 and 1=1 by clause 1"

NUMBER = "(?:0|[1-9][0-9]{0,39})"
LINE = rf"{NUMBER}(?:\+{NUMBER})*=[01]"


def plain_words(line):
    """Return a line without its remark, with one blank between words and none at its ends."""
    return re.sub(" +", " ", re.sub("#.*", "", line)).strip(" ")


def plain_lines(text, between):
    """Return the lines that a text of the right form shows."""
    found = []
    for part in text.split(between):
        row, bit = part.split("=")
        found.append((tuple([int(word) for word in row.split("+")]), int(bit)))
    return tuple(found)


def is_fine(many, lines):
    """Tell whether lines are a CLAUSE of so many unknowns."""
    rows = [row for row, _ in lines]
    return (all([list(row) == sorted(set(row)) and row[-1] < many for row in rows])
            and list(lines) == sorted(set(lines)))


def plain_clause(many, line):
    """Return the clause that a line shows, None if it is BAD: read by its form as a whole."""
    if line == "clause never":
        return ()
    if not re.fullmatch(f"clause {LINE}(?: or {LINE})*", line):
        return None
    lines = plain_lines(line[len("clause "):], " or ")
    return lines if is_fine(many, lines) else None


def plain_step(book, count, line):
    """Return the step that a line shows, None if it is BAD."""
    form = f"(all|{LINE}(?: and {LINE})*) by (?:clause ({NUMBER})|steps ({NUMBER}) ({NUMBER}))"
    match = re.fullmatch(form, line)
    if not match:
        return None
    flat = () if match[1] == "all" else plain_lines(match[1], " and ")
    if not is_fine(book[0], flat) or not is_plain_flat(flat):
        return None
    if match[2] is not None:
        return (flat, ("clause", int(match[2]))) if int(match[2]) < len(book[1]) else None
    fine = int(match[3]) < count and int(match[4]) < count
    return (flat, ("steps", int(match[3]), int(match[4]))) if fine else None


def plain_book(text):
    """Return the book that a text shows, or the index of the first BAD line."""
    many, clauses, lines = None, [], text.split("\n")
    for index, line in enumerate(map(plain_words, lines)):
        if line and many is None:
            if not re.fullmatch(f"unknowns {NUMBER}", line):
                return index
            many = int(line[len("unknowns "):])
        elif line:
            clauses.append(plain_clause(many, line))
            if clauses[-1] is None:
                return index
    return len(lines) if many is None else (many, tuple(clauses))


def plain_paper(book, text):
    """Return the paper that a text shows, or the index of the first BAD line."""
    steps, lines = [], text.split("\n")
    for index, line in enumerate(map(plain_words, lines)):
        if line:
            steps.append(plain_step(book, len(steps), line))
            if steps[-1] is None:
                return index
    return tuple(steps) if steps else len(lines)


class Reading(unittest.TestCase):
    def bad(self, index, function, *args):
        """Check that a text is refused with this line."""
        with self.assertRaises(NoText, msg=args[-1]) as caught:
            function(*args)
        same(self, caught.exception.line, index, args[-1])
        self.assertIsInstance(caught.exception, SumError)

    def wrong(self, place, function, *args):
        """Check that the argument at a place is refused."""
        with self.assertRaises(Wrong, msg=repr(args)[:80]) as caught:
            function(*args)
        same(self, caught.exception.place, place, repr(args)[:80])

    def like(self, wanted, function, *args):
        """Check against what was read plainly: what a text shows, or the index of a line."""
        if isinstance(wanted, int):
            self.bad(wanted, function, *args)
        else:
            same(self, steady(self, function, *args), wanted, args[-1])


class TestBooks(Reading):
    def test_ordinary(self):
        same(self, steady(self, read_book, "unknowns 0"), (0, ()))
        same(self, steady(self, read_book, "unknowns 0\nclause never"), (0, ((),)))
        same(self, steady(self, read_book, "unknowns 3\nclause 0+2=1\nclause 0=0 or 0=1 or 0+1+2=0\nclause 0+2=1"),
             (3, ((((0, 2), 1),), (((0,), 0), ((0,), 1), ((0, 1, 2), 0)), (((0, 2), 1),))))
        same(self, read_book("unknowns 12\nclause 9+10+11=0 or 11=1"), (12, ((((9, 10, 11), 0), ((11,), 1)),)))

    def test_blanks_and_remarks(self):
        book = (2, ((((0,), 0), ((1,), 1)), ()))
        for text in ["unknowns 2\nclause 0=0 or 1=1\nclause never",
                     "\n\nunknowns 2\n\n   \nclause 0=0 or 1=1\nclause never\n\n",
                     "# a book\n  unknowns   2  \n #\n   clause  0=0   or 1=1   \n  clause    never ",
                     "unknowns 2# two\nclause 0=0 or 1=1#clause 0=0\nclause never ## never\n# clause 3=3",
                     "unknowns 2 #\nclause 0=0 or 1=1 # or 0=1\n#x\nclause never#"]:
            same(self, steady(self, read_book, text), book, text)

    def test_bad_lines(self):
        for bad in BAD_BOOK_LINES:
            self.bad(1, read_book, "unknowns 3\n" + bad)
            self.bad(1, read_book, "unknowns 3\n" + bad + "\nclause 0=0")
            self.bad(2, read_book, "unknowns 3\nclause never\n" + bad)
            self.bad(6, read_book, f"# book\n\nunknowns 3 # three\n  \nclause 0=0 # one\n#\n  {bad}  # bad\n\nclause 1=0")

    def test_first_bad_line(self):
        for bad in BAD_BOOK_LINES:
            for other in ("x", "unknowns 3", "clause 3=0", "clause"):
                self.bad(2, read_book, f"unknowns 3\nclause 0=0\n{bad}\n{other}")
                self.bad(2, read_book, f"unknowns 3\n\n{other}\n{bad}")
        for bad in BAD_UNKNOWNS:
            self.bad(0, read_book, bad + "\nunknowns 3\nclause 5=0")

    def test_bad_unknowns(self):
        for bad in BAD_UNKNOWNS:
            self.bad(0, read_book, bad)
            self.bad(0, read_book, bad + "\nunknowns 1")
            self.bad(2, read_book, "# remark\n\n  " + bad + " # bad\n\n")

    def test_unknowns_twice_or_late(self):
        self.bad(1, read_book, "unknowns 1\nunknowns 1")
        self.bad(3, read_book, "unknowns 1\nclause 0=0\n\nunknowns 2")
        self.bad(0, read_book, "clause never\nunknowns 1")
        self.bad(1, read_book, "\nclause 0=0\nunknowns 1")

    def test_unknowns_lacking(self):
        self.bad(1, read_book, "")
        self.bad(1, read_book, "   ")
        self.bad(1, read_book, "# unknowns 3")
        self.bad(2, read_book, "\n")
        self.bad(4, read_book, "#\n\n   \n # clause")
        self.bad(3, read_book, "\n\n")

    def test_within_and_beyond(self):
        same(self, read_book("unknowns 3\nclause 2=0"), (3, ((((2,), 0),),)))
        self.bad(1, read_book, "unknowns 2\nclause 2=0")
        self.bad(1, read_book, "unknowns 0\nclause 0=0")
        same(self, read_book("unknowns 1\nclause 0=0"), (1, ((((0,), 0),),)))

    def test_forty_digits(self):
        same(self, read_book("unknowns " + FORTY), (10 ** 40 - 1, ()))
        same(self, read_book(f"unknowns 1{'0' * 39}"), (HUGE, ()))
        self.bad(0, read_book, "unknowns 1" + "0" * 40)
        self.bad(0, read_book, "unknowns " + "9" * 41)
        inner = str(10 ** 40 - 2)
        same(self, read_book(f"unknowns {FORTY}\nclause 0+{inner}=1"), (10 ** 40 - 1, ((((0, 10 ** 40 - 2), 1),),)))
        self.bad(1, read_book, f"unknowns {FORTY}\nclause {FORTY}=1")
        self.bad(1, read_book, f"unknowns {FORTY}\nclause 1{'0' * 40}=1")
        self.bad(1, read_book, f"unknowns {FORTY}\nclause 0{inner[1:]}=1")

    def test_any_values(self):
        for value in any_values():
            if isinstance(value, str):
                self.like(plain_book(value), read_book, value)
            else:
                self.wrong(0, read_book, value)

    def test_shown_is_read_back(self):
        books = [(0, ()), (0, ((), ())), (HUGE, ()), (HUGE, ((((0, HUGE - 1), 1),),)), great_book(20), great_book(21)]
        books += [some_book(seed, 1 + seed % 12, seed % 20, 6) for seed in range(40)]
        for book in books:
            same(self, steady(self, read_book, show_book(book)), book)

    def test_by_chance(self):
        source = chance(22)
        words = ["0=0", "0=1", "1=0", "0+1=1", "1+2=0", "2+0=1", "3=1", "or", "or", "or", "never", "#", "clause", "and", "00"]
        heads = ["unknowns 3", "unknowns 3", "unknowns 3", "", "#", " unknowns  2 ", "unknowns 03", "clause 0=0"]
        for _ in range(3000):
            lines = [source.choice(heads)]
            for _ in range(source.randrange(4)):
                line = source.choice(["clause ", "clause ", "clause ", "  clause  ", "", "x "])
                line += source.choice(["0=0", "0=1 or 1=0", "never", "0+1=0", ""])
                for _ in range(source.choice([0, 0, 1, 2])):
                    line += " " * source.randrange(1, 3) + source.choice(words)
                lines.append(line)
            self.like(plain_book("\n".join(lines)), read_book, "\n".join(lines))

    def test_signs_by_chance(self):
        """One sign put in, taken out or exchanged in a text that shows a book."""
        source = chance(23)
        for seed in range(1500):
            text = show_book(some_book(seed % 30, 3, 3, 3))
            place, sign = source.randrange(len(text) + 1), source.choice(" 0123=+-#\nornx~")
            text = text[:place] + source.choice(["", sign, sign]) + text[place + source.choice([0, 1]):]
            self.like(plain_book(text), read_book, text)


class TestPapers(Reading):
    def test_ordinary(self):
        same(self, steady(self, read_paper, BOOK, "all by clause 1"), (((), ("clause", 1)),))
        same(self, steady(self, read_paper, BOOK, "0+2=1 and 1=0 by clause 0\n2=1 by clause 1\nall by steps 1 0"),
             (((((0, 2), 1), ((1,), 0)), ("clause", 0)), ((((2,), 1),), ("clause", 1)), ((), ("steps", 1, 0))))
        same(self, steady(self, read_paper, BOOK, STEPS + "\n0=1 by steps 1 1"),
             (((), ("clause", 0)), ((((0,), 0), ((1,), 1)), ("clause", 1)), ((((0,), 1),), ("steps", 1, 1))))

    def test_is_not_asked_for_a_paper(self):
        same(self, read_paper((1, ((((0,), 0),),)), "all by clause 0\n0=0 by steps 0 0"),
             (((), ("clause", 0)), ((((0,), 0),), ("steps", 0, 0))))

    def test_blanks_and_remarks(self):
        paper = (((((0,), 0), ((1,), 1)), ("clause", 0)), ((), ("steps", 0, 0)))
        for text in ["0=0 and 1=1 by clause 0\nall by steps 0 0", "\n 0=0  and 1=1   by  clause 0 # x\n\n#\n  all by steps 0 0 ",
                     "#\n0=0 and 1=1 by clause 0# by clause 1\nall by steps 0 0#\n\n"]:
            same(self, steady(self, read_paper, BOOK, text), paper, text)

    def test_bad_steps(self):
        for bad in BAD_STEPS:
            self.bad(2, read_paper, BOOK, STEPS + "\n" + bad)
            self.bad(2, read_paper, BOOK, STEPS + "\n" + bad + "\nall by clause 0")
            self.bad(2, read_paper, BOOK, STEPS + "\n" + bad + "\nx")
            self.bad(2, read_paper, BOOK, STEPS + "\nall by steps 0 2\n" + bad)
            self.bad(5, read_paper, BOOK, f"# paper\n\n{STEPS} # one\n\n   {bad}   # bad\nall by clause 0")

    def test_first_bad_line(self):
        for bad in BAD_STEPS:
            self.bad(0, read_paper, BOOK, bad)
            self.bad(1, read_paper, BOOK, "\n" + bad + "\n" + STEPS)

    def test_step_lacking(self):
        self.bad(1, read_paper, BOOK, "")
        self.bad(1, read_paper, BOOK, "  # all by clause 0")
        self.bad(2, read_paper, BOOK, "\n")
        self.bad(3, read_paper, BOOK, " \n#\n  ")

    def test_within_and_beyond(self):
        book = (2, ((),))
        same(self, read_paper(book, "1=0 by clause 0\n1=0 by steps 0 0"),
             (((((1,), 0),), ("clause", 0)), ((((1,), 0),), ("steps", 0, 0))))
        self.bad(0, read_paper, book, "2=0 by clause 0")
        self.bad(0, read_paper, book, "0=0 by clause 1")
        self.bad(0, read_paper, book, "0=0 by steps 0 0")
        self.bad(1, read_paper, book, "0=0 by clause 0\n0=0 by steps 0 1")
        self.bad(1, read_paper, book, "0=0 by clause 0\n0=0 by steps 1 0")
        self.bad(0, read_paper, (2, ()), "all by clause 0")
        self.bad(0, read_paper, (0, ((),)), "0=0 by clause 0")
        same(self, read_paper((0, ((),)), "all by clause 0"), (((), ("clause", 0)),))

    def test_forty_digits(self):
        book, inner = (10 ** 40 - 1, ((),)), str(10 ** 40 - 2)
        same(self, read_paper(book, f"{inner}=1 by clause 0"), (((((10 ** 40 - 2,), 1),), ("clause", 0)),))
        for bad in [f"{FORTY}=1 by clause 0", f"1{FORTY}=1 by clause 0", f"0{inner}=1 by clause 0",
                    f"0=1 by clause {FORTY}", f"0=1 by clause 0{'0' * 40}", f"0=1 by steps {FORTY} {FORTY}"]:
            self.bad(0, read_paper, book, bad)

    def test_wrong_books(self):
        for value in any_values():
            if repr(value) in ("(0, ())", "(1, ((((0,), 0),),))"):
                self.wrong(1, read_paper, value, None)
                self.bad(1, read_paper, value, "")
                continue
            for text in ("all by clause 0", "", None, [], "x"):
                self.wrong(0, read_paper, value, text)

    def test_wrong_texts(self):
        for value in any_values():
            if isinstance(value, str):
                self.like(plain_paper(BOOK, value), read_paper, BOOK, value)
            else:
                self.wrong(1, read_paper, BOOK, value)

    def test_books_are_asked_closely(self):
        for book in [(3, [((),)]), (3, ((((0,), True),),)), (True, ()), (3, ((((1,), 0), ((0,), 0)),)), (3, ((((3,), 0),),)),
                     [3, ()], (3, (((0,), 0),)), (-1, ()), (3, ((), None))]:
            self.wrong(0, read_paper, book, "all by clause 0")

    def test_shown_is_read_back(self):
        source = chance(24)
        flats = flats_up_to(3, 3)
        for size in (1, 2, 7, 300):
            paper = [(source.choice(flats), ("clause", source.randrange(2)))]
            while len(paper) < size:
                steps = ("steps", source.randrange(len(paper)), source.randrange(len(paper)))
                paper.append((source.choice(flats), source.choice([("clause", source.randrange(2)), steps])))
            same(self, steady(self, read_paper, BOOK, show_paper(tuple(paper))), tuple(paper))

    def test_shown_is_read_back_of_twelve(self):
        book = great_book(25)
        flat = tuple([((unknown, 11), unknown % 2) for unknown in range(11)])
        paper = ((flat, ("clause", 23)), (flat[3:9], ("clause", 10)), ((), ("steps", 1, 0)))
        same(self, read_paper(book, show_paper(paper)), paper)

    def test_by_chance(self):
        source = chance(26)
        flats = ["all", "0=0", "0=1 and 1=0", "0+2=1 and 1=1", "0+1=0 and 1=0", "1=0 and 0=0", "0=0 or 1=0", "3=1", "0=0 and"]
        reasons = [f"clause {k}" for k in range(3)] + [f"steps {one} {two}" for one in range(4) for two in range(3)]
        reasons += ["clause", "steps 0", "clause 00", "step 0 0", "steps 0 0 # 1", "clause 1 0", ""]
        for _ in range(3000):
            lines = []
            for _ in range(source.randrange(5)):
                line = source.choice(flats[:4] + flats) + source.choice([" by ", " by ", "  by  ", " ", " by by "])
                lines.append(source.choice([line + source.choice(reasons), line + source.choice(reasons[:5]), "", "#"]))
            self.like(plain_paper(BOOK, "\n".join(lines)), read_paper, BOOK, "\n".join(lines))

    def test_every_small_flat(self):
        """Each tuple of lines of small sums is read just if it is a flat."""
        shown = ["+".join([str(unknown) for unknown in row]) + f"={bit}" for row in sums_of(3) if row for bit in (0, 1)]
        for one in shown:
            for other in shown:
                text = f"{one} and {other} by clause 0"
                self.like(plain_paper(BOOK, text), read_paper, BOOK, text)


if __name__ == "__main__":
    unittest.main()
