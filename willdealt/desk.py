"""The desk: a house and a chest, asked by rows of words."""

from willdealt.chances import doing, might
from willdealt.chests import Chest
from willdealt.dealing import deal
from willdealt.errors import NoPerson, NoRow
from willdealt.figures import read_day
from willdealt.papers import TELLING
from willdealt.reasons import why
from willdealt.storytexts import read_story

# In a row, and in what is told, this stands for a line end.
LINE_END = "; "


def words_or_none(words):
    """Words with blanks between, or none."""
    return " ".join(words) if len(words) > 0 else "none"


def reason_text(number, word):
    """A clause that was looked at for a thing, as it is told."""
    return word if number is None else f"{number} {word}"


def answer_found(house, chest, said):
    """Keep a paper."""
    label, day_word, word, body = said
    day = read_day(day_word)
    if day is None:
        raise NoRow()
    chest.put(label, day, word, body.replace(LINE_END, "\n") if word in TELLING else body)
    return "ok"


def answer_undo(house, chest, said):
    """Take out the last paper."""
    chest.undo()
    return "ok"


def answer_papers(house, chest, said):
    """The labels of all papers."""
    return words_or_none(chest.labels())


def answer_standing(house, chest, said):
    """The labels of all papers that stand."""
    return words_or_none(chest.standing())


def answer_will(house, chest, said):
    """The will of the papers."""
    will = chest.will()
    return str(will) if len(will) > 0 else "none"


def answer_deal(house, chest, said):
    """Who has what in a story."""
    story = read_story(said[0])
    return str(deal(house, chest.will(), story))


def answer_has(house, chest, said):
    """The net of a name in a story."""
    story = read_story(said[1])
    return str(deal(house, chest.will(), story).net(said[0]))


def answer_why(house, chest, said):
    """The clauses that were looked at for a thing in a story."""
    story = read_story(said[1])
    rows = why(house, chest.will(), story, said[0])
    return ", ".join([reason_text(number, word) for number, word in rows])


def answer_never(house, chest, said):
    """The numbers of the clauses that can never do anything."""
    return words_or_none([str(number) for number, story in doing(house, chest.will()) if story is None])


def answer_might(house, chest, said):
    """The least and the most that a name might have."""
    for name, least, story, most, other in might(house, chest.will()):
        if name == said[0]:
            return f"{least} to {most}"
    raise NoPerson(said[0])


ANSWERS = {
    "found": answer_found, "undo": answer_undo, "papers": answer_papers, "standing": answer_standing,
    "will": answer_will, "deal": answer_deal, "has": answer_has, "why": answer_why, "never": answer_never,
    "might": answer_might,
}
# How much is said behind the first word; of those with more than words the last is all that follows.
MANY_SAID = {
    "found": 4, "undo": 0, "papers": 0, "standing": 0, "will": 0, "deal": 1, "has": 2, "why": 2, "never": 0,
    "might": 1,
}
WITH_MORE_THAN_WORDS = ("found", "deal", "has", "why")


def read_row(row):
    """The first word of a row, and the list of what is said behind it."""
    if not isinstance(row, str):
        raise NoRow()
    words = row.split(" ")
    first = words[0]
    if first not in ANSWERS:
        raise NoRow()
    many = MANY_SAID[first]
    if first in WITH_MORE_THAN_WORDS:
        words = row.split(" ", many)
    if len(words) != many + 1:
        raise NoRow()
    return first, words[1:]


class Desk:
    """A house, and a chest of its own; it changes by what is said to it alone."""

    def __init__(self, house):
        self.house = house
        self.chest = Chest()

    def say(self, row):
        """The answer to a row."""
        first, said = read_row(row)
        answer = ANSWERS[first]
        return answer(self.house, self.chest, said).replace("\n", LINE_END)
