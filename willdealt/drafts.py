"""A will's line as a draft: what is written, with its spots not yet read in either way.

A draft is a tuple (WORD, WHAT, ROWS, TREE), as a clause, but
ROWS, for a WHOM, are lists of items (WORD, NAMES, BEHIND, AT), one list for
each alternative. AT is the number of the item's first word in the line; BEHIND
are the names straight behind it that make it a spot, () where it is none.
TREE, for a COND, is one, but where it has ands and ors it has
("row", AT, TERMS, JOINS) with the words between the terms in JOINS.
"""

from willdealt.errors import NoText
from willdealt.figures import read_day, read_number
from willdealt.names import is_name

MOST_BRACKETS = 12
# With one more no reading of the line would be a condition (six within one another).
MOST_NOTS = 5
KIN = ("children", "stock")
JOINING = ("and", "or")


class Words:
    """The words of a line, taken one by one from the left."""

    def __init__(self, text, line):
        self.words = text.split(" ")
        self.line = line
        self.at = 0

    def ahead(self, by=0):
        """The next word, or the one BY words on, None behind the last one."""
        at = self.at + by
        return self.words[at] if at < len(self.words) else None

    def take(self):
        """The next word, which is taken."""
        word = self.ahead()
        if word is None:
            raise NoText(self.line)
        self.at += 1
        return word

    def take_just(self, wanted):
        """Take a word that must be the wanted one."""
        if self.take() != wanted:
            raise NoText(self.line)

    def take_name(self):
        """Take a word that must be a name."""
        word = self.take()
        if not is_name(word):
            raise NoText(self.line)
        return word

    def take_number(self):
        """Take a word that must write a number from 0 on."""
        number = read_number(self.take())
        if number is None:
            raise NoText(self.line)
        return number

    def take_day(self):
        """Take a word that must write a day."""
        day = read_day(self.take())
        if day is None:
            raise NoText(self.line)
        return day

    def take_end(self):
        """Refuse the line if a word is left."""
        if self.ahead() is not None:
            raise NoText(self.line)


def names_between(words):
    """Take two names or more with and between, in brackets."""
    words.take_just("(")
    names = [words.take_name()]
    while words.ahead() == "and":
        words.take()
        names.append(words.take_name())
    words.take_just(")")
    if len(names) < 2:
        raise NoText(words.line)
    return tuple(names)


def names_behind(words):
    """Take each name that stands straight behind an and."""
    names = []
    while words.ahead() == "and" and is_name(words.ahead(1)):
        words.take()
        names.append(words.take_name())
    return tuple(names)


def kin_item(words, may_be_spot):
    """Take an item of children or a stock."""
    at = words.at
    word = words.take()
    if word not in KIN:
        raise NoText(words.line)
    words.take_just("of")
    if words.ahead() == "(":
        return (word, names_between(words), (), at)
    names = (words.take_name(),)
    return (word, names, names_behind(words) if may_be_spot else (), at)


def item(words):
    """Take an item of an alternative."""
    if words.ahead() == "(":
        words.take()
        inner = kin_item(words, False)
        words.take_just(")")
        return inner
    if words.ahead() in KIN:
        return kin_item(words, True)
    at = words.at
    return ("one", (words.take_name(),), (), at)


def alternative(words):
    """Take the items of an alternative."""
    items = [item(words)]
    while words.ahead() == "and":
        words.take()
        items.append(item(words))
    return items


def alternatives(words):
    """Take the alternatives of a WHOM."""
    rows = [alternative(words)]
    while words.ahead() == "else":
        words.take()
        rows.append(alternative(words))
    return rows


def lives_leaf(words):
    """Take a lives, with its day where it has one."""
    words.take()
    name = words.take_name()
    if words.ahead() in (None, ")", "and", "or"):
        return ("lives", name)
    return ("lives", name, words.take_day())


def bare_term(words, deep):
    """Take a term without any not ahead, DEEP brackets being around it."""
    word = words.ahead()
    if word == "lives":
        return lives_leaf(words)
    if word == "childless":
        words.take()
        return ("childless", words.take_name())
    if deep == MOST_BRACKETS:
        raise NoText(words.line)
    words.take_just("(")
    tree = cond_tree(words, deep + 1)
    words.take_just(")")
    return tree


def term(words, deep):
    """Take a term, with any nots ahead of it."""
    many = 0
    while words.ahead() == "not":
        words.take()
        many += 1
    if many > MOST_NOTS:
        raise NoText(words.line)
    tree = bare_term(words, deep)
    for turn in range(many):
        tree = ("not", tree)
    return tree


def cond_tree(words, deep=0):
    """Take the terms of a COND, DEEP brackets being around it."""
    at = words.at
    terms = [term(words, deep)]
    joins = []
    while words.ahead() in JOINING:
        joins.append(words.take())
        terms.append(term(words, deep))
    return terms[0] if len(joins) == 0 else ("row", at, terms, joins)


def gift_head(words):
    """Take what a gift begins with, up to its to: its clause's word, and what it gives."""
    word = words.take()
    if word == "pay" or word == "rest":
        return word, words.take_number()
    if word != "give":
        raise NoText(words.line)
    if words.ahead() == "all":
        words.take()
        word = "kind"
    return word, words.take_name()


def gift_draft(words):
    """Take a line that gives something to somebody."""
    word, what = gift_head(words)
    words.take_just("to")
    rows = alternatives(words)
    tree = None
    if words.ahead() == "if":
        words.take()
        tree = cond_tree(words)
    return (word, what, rows, tree)


def draft_line(text, line):
    """The draft of a line, which is refused by its number LINE."""
    words = Words(text, line)
    word = words.ahead()
    if word == "ranks":
        return ("ranks", tuple(words.words[1:]), None, None)
    if word == "wait":
        words.take()
        draft = ("wait", words.take_number(), None, None)
    else:
        draft = gift_draft(words)
    words.take_end()
    return draft
