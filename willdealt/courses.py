"""How the clauses of a will go in a story."""

from willdealt.conds import comes, cond_names
from willdealt.houses import check_persons, check_thing
from willdealt.whoms import takers, whom_names
from willdealt.wills import wait_of

# A gift is a clause with a WHOM: a give, kind, pay or rest.
GIFT_PARTS = 4


def is_gift(clause):
    """Tell whether a clause gives something to somebody."""
    return len(clause) == GIFT_PARTS


def check_names(house, will):
    """Refuse the first name in a will's clauses that the house hasn't; kinds aren't looked for."""
    for clause in will.clauses():
        if clause[0] == "give":
            check_thing(house, clause[1])
        if is_gift(clause):
            check_persons(house, whom_names(clause[2]) + cond_names(clause[3]))


def gift_end(house, clause, story, wait):
    """What a gift comes to, and its takers: `gives` where it goes, `if` or `want` where it doesn't."""
    word, what, whom, cond = clause
    if not comes(house, cond, story, wait):
        return ("if", ())
    taking = takers(house, whom, story, wait)
    return ("want", ()) if len(taking) == 0 else ("gives", taking)


class Course:
    """What each gift of a will comes to in a story, and which of them gives each thing of the house."""

    def __init__(self, house, will, story):
        wait = wait_of(will)
        self.house = house
        self.numbered = list(enumerate(will.clauses()))
        self.ends = {
            number: gift_end(house, clause, story, wait)
            for number, clause in self.numbered if is_gift(clause)
        }
        self.givers = {thing: self.first_going(self.looked_at(thing)) for thing in house.goods()}

    def numbers_of(self, word, what):
        """The numbers of the clauses with a word that tell WHAT, the last first."""
        numbers = [number for number, clause in self.numbered if clause[0] == word and clause[1] == what]
        return numbers[::-1]

    def looked_at(self, thing):
        """The numbers of the clauses that may give a thing, in the order in which they are looked at."""
        return self.numbers_of("give", thing) + self.numbers_of("kind", self.house.kind(thing))

    def goes(self, number):
        """Tell whether the gift of a number goes."""
        return self.ends[number][0] == "gives"

    def taking(self, number):
        """The (NAME, SHARE) of those who take by the gift of a number."""
        return self.ends[number][1]

    def first_going(self, numbers):
        """The first of some numbers whose gift goes, None where none does."""
        going = [number for number in numbers if self.goes(number)]
        return going[0] if len(going) > 0 else None

    def going(self, word):
        """The (NUMBER, WHAT) of the gifts with a word that go, by number."""
        return [
            (number, clause[1]) for number, clause in self.numbered
            if clause[0] == word and self.goes(number)
        ]

    def given_by(self, word):
        """The things that go by gifts with a word, as the house has them; None for those that go by none."""
        return [thing for thing in self.house.goods() if self.giving_word(thing) == word]

    def giving_word(self, thing):
        """The word of the clause that gives a thing, None where none does."""
        number = self.givers[thing]
        return None if number is None else self.numbered[number][1][0]
