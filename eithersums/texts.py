"""Shows lines, clauses, books, flats and papers as texts."""


def show_line(line):
    """Return the text of a LINE: 0+2=1."""
    row, bit = line
    return "+".join([str(unknown) for unknown in row]) + f"={bit}"


def show_clause(clause):
    """Return the text of a CLAUSE."""
    if not clause:
        return "clause never"
    return "clause " + " or ".join([show_line(line) for line in clause])


def show_book(book):
    """Return the text of a BOOK: how many unknowns, then a line for each clause."""
    many, clauses = book
    return "\n".join([f"unknowns {many}"] + [show_clause(clause) for clause in clauses])


def show_flat(flat):
    """Return the text of a FLAT."""
    if not flat:
        return "all"
    return " and ".join([show_line(line) for line in flat])


def show_paper(paper):
    """Return the text of a PAPER: a line for each step."""
    return "\n".join([f"{show_flat(flat)} by {_show_reason(reason)}" for flat, reason in paper])


def _show_reason(reason):
    return " ".join([str(part) for part in reason])
