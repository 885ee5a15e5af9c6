"""Wills: rows of clauses."""

from willdealt.conds import is_cond_or_none
from willdealt.days import is_day
from willdealt.errors import NoClause, TooMany
from willdealt.names import is_name, is_word
from willdealt.pennies import is_sum, is_whole
from willdealt.plainly import plain_clause
from willdealt.whoms import is_whom

MOST_CLAUSES = 16
MOST_WEIGHT = 99
# In the order in which they stand where a will tells no other.
RANKS = ("rest", "kinds", "sums", "names")


def is_weight(thing):
    """Tell whether a thing of any kind is a weight of a share of the rest."""
    return is_whole(thing) and 1 <= thing <= MOST_WEIGHT


def is_given(word, what):
    """Tell whether WHAT can be given by a clause that begins with WORD."""
    if is_word(word, ("give", "kind")):
        return is_name(what)
    if is_word(word, ("pay",)):
        return is_sum(what)
    return is_word(word, ("rest",)) and is_weight(what)


def is_row_of_ranks(thing):
    """Tell whether a thing of any kind tells each of the ranks once."""
    if not isinstance(thing, tuple) or len(thing) != len(RANKS):
        return False
    return all([is_word(rank, RANKS) for rank in thing]) and len(set(thing)) == len(RANKS)


def is_clause(thing):
    """Tell whether a thing of any kind is a clause."""
    if not isinstance(thing, tuple):
        return False
    if len(thing) == 4:
        word, what, whom, cond = thing
        return is_given(word, what) and is_whom(whom) and is_cond_or_none(cond)
    if len(thing) != 2:
        return False
    word, what = thing
    if is_word(word, ("wait",)):
        return is_day(what) and what >= 0
    return is_word(word, ("ranks",)) and is_row_of_ranks(what)


def check_clauses(clauses):
    """Refuse what can't be a will's clauses."""
    if not isinstance(clauses, tuple) or len(clauses) > MOST_CLAUSES:
        raise NoClause(None)
    for number, clause in enumerate(clauses):
        if not is_clause(clause):
            raise NoClause(number)


class Will:
    """A row of clauses, numbered from 0, which never changes."""

    def __init__(self, clauses=None):
        held = () if clauses is None else clauses
        check_clauses(held)
        self.held = held

    def clauses(self):
        """All clauses."""
        return self.held

    def plus(self, other):
        """The will of its clauses and, behind them, the other's."""
        many = len(self.held) + len(other.held)
        if many > MOST_CLAUSES:
            raise TooMany(many)
        return Will(self.held + other.held)

    def __len__(self):
        return len(self.held)

    def __eq__(self, other):
        return isinstance(other, Will) and self.held == other.held

    def __str__(self):
        return "\n".join([plain_clause(clause) for clause in self.held])

    def __repr__(self):
        return f"Will({len(self.held)})"


def last_told(will, word, otherwise):
    """What the last clause with a word tells, OTHERWISE where there is none."""
    told = otherwise
    for clause in will.clauses():
        if clause[0] == word:
            told = clause[1]
    return told


def wait_of(will):
    """The day that counts where a will's clauses tell none."""
    return last_told(will, "wait", 0)


def ranks_of(will):
    """The ranks of a will, in the order in which they bear what lacks."""
    return last_told(will, "ranks", RANKS)
