"""Wills read from texts, and written plainly."""

from willdealt.drafts import draft_line
from willdealt.errors import NoReading, NoText
from willdealt.names import is_word
from willdealt.spotted import clause_of, draft_spots
from willdealt.wills import MOST_CLAUSES, Will

READINGS = ("near", "wide")


def text_lines(text):
    """The lines of a will's text, none of the text without signs."""
    return [] if text == "" else text.split("\n")


def check_room(rows, most, line):
    """Refuse a line that would tell one more of what there are MOST at the most."""
    if len(rows) >= most:
        raise NoText(line)


def read_line(text, line, reading):
    """The clause of a line, all of its spots read in one way."""
    draft = draft_line(text, line)
    return clause_of(draft, draft_spots(draft) if reading == "wide" else [], line)


def read_will(text, reading="near"):
    """The will that a text tells, all of its spots read in one way."""
    if not isinstance(text, str):
        raise NoText(None)
    if not is_word(reading, READINGS):
        raise NoReading(reading)
    clauses = []
    for line, row in enumerate(text_lines(text)):
        check_room(clauses, MOST_CLAUSES, line)
        clauses.append(read_line(row, line, reading))
    return Will(tuple(clauses))


def show_will(will):
    """The plain text of a will."""
    return str(will)
