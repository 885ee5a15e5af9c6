"""Papers: what is written on them, and which of them stand."""

from willdealt.errors import NoName, NoText
from willdealt.figures import read_number
from willdealt.names import is_name
from willdealt.wills import MOST_CLAUSES
from willdealt.willtexts import check_room, read_line, text_lines

MOST_DROPS = 16
# The words of papers that tell clauses, and of those that tell what other papers do.
TELLING = ("will", "codicil")
TURNING = ("strike", "wake")


def read_drop(words, line):
    """The (LABEL, NUMBER) of a line of words that begins with drop."""
    if len(words) != 3 or not is_name(words[1]):
        raise NoText(line)
    number = read_number(words[2])
    if number is None:
        raise NoText(line)
    return (words[1], number)


def read_paper(text):
    """The clauses, and the (LABEL, NUMBER) of the drops, of a will's text with drops among its lines."""
    if not isinstance(text, str):
        raise NoText(None)
    clauses = []
    drops = []
    for line, row in enumerate(text_lines(text)):
        words = row.split(" ")
        if words[0] == "drop":
            check_room(drops, MOST_DROPS, line)
            drops.append(read_drop(words, line))
        else:
            check_room(clauses, MOST_CLAUSES, line)
            clauses.append(read_line(row, line, "near"))
    return clauses, drops


def read_body(word, body):
    """The clauses and drops that the body of a paper tells, none of each where it is a label."""
    if word in TELLING:
        return read_paper(body)
    if not is_name(body):
        raise NoName(body)
    return [], []


class Paper:
    """A paper as it was found, which never changes."""

    def __init__(self, label, day, word, body):
        self.label = label
        self.day = day
        self.word = word
        self.body = body
        self.gifts, self.drops = read_body(word, body)


def labels_after(labels, paper, ahead):
    """The labels that stand when a paper has done its deed, where LABELS stood; AHEAD are papers of lesser days."""
    if paper.word == "will":
        return [paper.label]
    if paper.word == "codicil":
        return labels + [paper.label]
    others = [label for label in labels if label != paper.body]
    if paper.word == "strike":
        return others
    woken = [each.label for each in ahead if each.label == paper.body and each.word in TELLING]
    return others + woken


def standing_papers(papers):
    """Those of some papers, rising by days, that stand."""
    labels = []
    for at, paper in enumerate(papers):
        labels = labels_after(labels, paper, papers[:at])
    return [paper for paper in papers if paper.label in labels]


def is_dropped(papers, paper, number):
    """Tell whether one of the papers, of a greater day, drops a paper's clause."""
    return any([(paper.label, number) in later.drops for later in papers if later.day > paper.day])


def clauses_left(papers):
    """All clauses of papers, rising by days, less those that they drop."""
    return [
        clause for paper in papers for number, clause in enumerate(paper.gifts)
        if not is_dropped(papers, paper, number)
    ]
