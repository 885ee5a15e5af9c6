"""Chests: papers kept as they are found, and the will that they make."""

from willdealt.days import is_day
from willdealt.errors import DayStands, LabelStands, NoDay, NoLabel, NoName, NoUndo, NoWord, TooMany
from willdealt.names import is_name, is_word
from willdealt.papers import TELLING, TURNING, Paper, clauses_left, standing_papers
from willdealt.wills import MOST_CLAUSES, Will

MOST_PAPERS = 12


def check_head(label, day, word):
    """Refuse what can't be a paper's label, day or word."""
    if not is_name(label):
        raise NoName(label)
    if not is_day(day):
        raise NoDay(day)
    if not is_word(word, TELLING + TURNING):
        raise NoWord(word)


def check_place(papers, paper):
    """Refuse a paper that can't come to the others."""
    if any([each.label == paper.label for each in papers]):
        raise LabelStands(paper.label)
    if any([each.day == paper.day for each in papers]):
        raise DayStands(paper.day)
    if len(papers) >= MOST_PAPERS:
        raise TooMany(len(papers) + 1)


class Chest:
    """Papers in the order in which they were found; what they make goes by their days."""

    def __init__(self):
        self.found = []

    def put(self, label, day, word, body):
        """Keep a paper."""
        check_head(label, day, word)
        paper = Paper(label, day, word, body)
        check_place(self.found, paper)
        self.found.append(paper)

    def undo(self):
        """Take out the last paper that was put in."""
        if len(self.found) == 0:
            raise NoUndo()
        self.found.pop()

    def by_days(self):
        """All papers, rising by days."""
        return sorted(self.found, key=lambda paper: paper.day)

    def labels(self):
        """The labels of all papers, by days."""
        return [paper.label for paper in self.by_days()]

    def told(self, label):
        """The (DAY, WORD, BODY) of a label's paper."""
        for paper in self.found:
            if is_word(label, (paper.label,)):
                return (paper.day, paper.word, paper.body)
        raise NoLabel(label)

    def standing(self):
        """The labels of all papers that stand, by days."""
        return [paper.label for paper in standing_papers(self.by_days())]

    def will(self):
        """The will of all papers that stand."""
        clauses = clauses_left(standing_papers(self.by_days()))
        if len(clauses) > MOST_CLAUSES:
            raise TooMany(len(clauses))
        return Will(tuple(clauses))

    def __len__(self):
        return len(self.found)
