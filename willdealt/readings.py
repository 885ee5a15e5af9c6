"""Where a will's text can be read in two ways, and all that it may tell."""

from willdealt.drafts import draft_line
from willdealt.errors import TooMany
from willdealt.spotted import clause_of, draft_spots
from willdealt.wills import Will
from willdealt.willtexts import read_will, text_lines

MOST_SPOTS = 4


def text_drafts(text):
    """The drafts of all lines of a text, which is refused where, read near, it is no will."""
    read_will(text)
    return [draft_line(row, line) for line, row in enumerate(text_lines(text))]


def marks_of(drafts):
    """The (LINE, AT) of all spots, AT the number of the word in the line with which one begins."""
    return [(line, at) for line, draft in enumerate(drafts) for at in draft_spots(draft)]


def choices(marks):
    """All lists of marks to be read wide, near ahead of wide, the last mark changing first."""
    rows = [[]]
    for mark in marks:
        rows = [row + more for row in rows for more in ([], [mark])]
    return rows


def chosen_clause(draft, line, wide):
    """The clause of a line's draft, the marks WIDE being read wide."""
    return clause_of(draft, [at for number, at in wide if number == line], line)


def chosen_will(drafts, wide):
    """The will of the drafts, the marks WIDE being read wide."""
    return Will(tuple([chosen_clause(draft, line, wide) for line, draft in enumerate(drafts)]))


def spots(text):
    """The numbers of the lines of all spots, as they begin from the left, line by line."""
    return tuple([line for line, at in marks_of(text_drafts(text))])


def readings(text):
    """The wills that a text tells by all choices of near and wide for its spots."""
    drafts = text_drafts(text)
    marks = marks_of(drafts)
    if len(marks) > MOST_SPOTS:
        raise TooMany(len(marks))
    return tuple([chosen_will(drafts, wide) for wide in choices(marks)])
