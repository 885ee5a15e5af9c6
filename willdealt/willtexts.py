"""Wills read from texts, and written plainly."""

from willdealt.drafts import draft_line
from willdealt.errors import NoReading, NoText
from willdealt.names import is_word
from willdealt.spotted import clause_of, draft_spots
from willdealt.wills import MOST_CLAUSES, Will

READINGS = ("near", "wide")


def text_lines(text):
    """The lines of a will's text, none of the text without signs."""
    return [] if text == "" else text.split("\n")


def read_line(text, line, reading):
    """The clause of a line, all of its spots read in one way."""
    if line >= MOST_CLAUSES:
        raise NoText(line)
    draft = draft_line(text, line)
    return clause_of(draft, draft_spots(draft) if reading == "wide" else [], line)


def read_will(text, reading="near"):
    """The will that a text tells, all of its spots read in one way."""
    if not isinstance(text, str):
        raise NoText(None)
    if not is_word(reading, READINGS):
        raise NoReading(reading)
    clauses = [read_line(row, line, reading) for line, row in enumerate(text_lines(text))]
    return Will(tuple(clauses))


def show_will(will):
    """The plain text of a will."""
    return str(will)
