"""Texts of claims and of rows: how they are written, and how they are read."""

from cellsenough.base.frames import check_frame
from cellsenough.code.program import Program, check_program
from cellsenough.errors import ParseError
from cellsenough.logic.shapes import check_claim
from cellsenough.text.claimreader import read_claim_of
from cellsenough.text.rowreader import read_rows_of
from cellsenough.text.scanner import Scanner


def write_claim(frame, claim):
    """The text of a claim."""
    check_frame(frame)
    check_claim(frame, claim)
    return _claim_text(claim)


def write_rows(program):
    """The text of the rows of a program."""
    check_program(program)
    return _rows_text(program.rows)


def read_claim(frame, text):
    """The claim with this text."""
    scanner = _scanner(frame, text)
    claim = read_claim_of(scanner, "claim")
    scanner.finish()
    check_claim(frame, claim)
    return claim


def read_rows(frame, text):
    """The program with this text."""
    return Program(frame, read_rows_of(_scanner(frame, text)))


def _scanner(frame, text):
    """A scanner of the text."""
    check_frame(frame)
    if not isinstance(text, str):
        raise ParseError(None)
    return Scanner(frame, text)


def _more_text(number):
    """The text of a number behind a name or a cell."""
    return "" if number == 0 else f"{number:+d}"


def _term_text(term):
    """The text of a position term or a value term."""
    if len(term) == 4:
        return f"{term[0]}[{_term_text(term[1:3])}]{_more_text(term[3])}"
    return str(term[1]) if term[0] == "" else f"{term[0]}{_more_text(term[1])}"


def _claim_text(claim):
    """The text of a claim, a guard or a body."""
    word = claim[0]
    if word in ("pos", "val"):
        text = f"{_term_text(claim[2])} {claim[1]} {_term_text(claim[3])}"
        return f"[{text}]" if word == "pos" else text
    if word == "all":
        names = ", ".join(claim[1])
        return f"all {names} ({_claim_text(claim[2])} -> {_claim_text(claim[3])})"
    parts = claim[1] if word in ("and", "or") else claim[1:]
    inner = ", ".join([_claim_text(part) for part in parts])
    return f"{word}({inner})"


def _rows_text(rows):
    """The text of rows."""
    return "; ".join([_row_text(row) for row in rows])


def _block_text(rows):
    """The text of rows in braces."""
    return "{ " + _rows_text(rows) + " }" if rows else "{ }"


def _row_text(row):
    """The text of a row."""
    if row[0] == "while":
        return f"while {_claim_text(row[1])} {_block_text(row[2])}"
    if row[0] == "if":
        return f"if {_claim_text(row[1])} {_block_text(row[2])} else {_block_text(row[3])}"
    written = _term_text((*row[1:4], 0)) if row[0] == "write" else row[1]
    return f"{written} = {_term_text(row[-1])}"
