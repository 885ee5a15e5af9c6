"""Houses: people with parents, goods of kinds, a purse, debts."""

from willdealt.errors import NoGoods, NoPeople, NoPerson, NoSum, NoThing
from willdealt.names import is_name, is_word
from willdealt.pennies import is_sum

MOST_PEOPLE = 8
MOST_GOODS = 8


def is_person(thing, ahead):
    """Tell whether a thing of any kind can follow people with the names AHEAD."""
    if not isinstance(thing, tuple) or len(thing) != 2:
        return False
    name, parent = thing
    if not is_name(name) or name in ahead:
        return False
    return parent is None or is_word(parent, ahead)


def is_good(thing, ahead):
    """Tell whether a thing of any kind can follow goods with the names AHEAD."""
    if not isinstance(thing, tuple) or len(thing) != 3:
        return False
    name, kind, worth = thing
    return is_name(name) and name not in ahead and is_name(kind) and is_sum(worth)


def check_people(people):
    """Refuse what can't be a house's people."""
    if not isinstance(people, tuple) or not 1 <= len(people) <= MOST_PEOPLE:
        raise NoPeople(None)
    ahead = []
    for number, person in enumerate(people):
        if not is_person(person, ahead):
            raise NoPeople(number)
        ahead.append(person[0])


def check_goods(goods):
    """Refuse what can't be a house's goods."""
    if not isinstance(goods, tuple) or len(goods) > MOST_GOODS:
        raise NoGoods(None)
    ahead = []
    for number, good in enumerate(goods):
        if not is_good(good, ahead):
            raise NoGoods(number)
        ahead.append(good[0])


def row_named(rows, name):
    """The row that begins with a name, None where none does."""
    for row in rows:
        if is_word(name, (row[0],)):
            return row
    return None


def person_line(name, parent):
    """The line of a house's text for one of its people."""
    return f"person {name}" if parent is None else f"person {name} of {parent}"


class House:
    """A maker's house, which never changes."""

    def __init__(self, people, goods=None, purse=0, debts=0):
        check_people(people)
        things = () if goods is None else goods
        check_goods(things)
        for amount in (purse, debts):
            if not is_sum(amount):
                raise NoSum(amount)
        self.folk = people
        self.things = things
        self.purse = purse
        self.debts = debts

    def people(self):
        """The names of all people, as told."""
        return tuple([row[0] for row in self.folk])

    def children(self, name):
        """The names of a person's children, as told."""
        self.person(name)
        return tuple([row[0] for row in self.folk if row[1] == name])

    def parent(self, name):
        """The name of a person's parent, or None."""
        return self.person(name)[1]

    def goods(self, kind=None, key=None):
        """The names of all things, or of those of a kind, as told or by what a key tells."""
        names = [row[0] for row in self.things if kind is None or is_word(kind, (row[1],))]
        if key is not None:
            names = sorted(names, key=lambda name: key(name))
        return tuple(names)

    def kind(self, thing):
        """The kind of a thing."""
        return self.good(thing)[1]

    def worth(self, thing):
        """The worth of a thing."""
        return self.good(thing)[2]

    def person(self, name):
        """The row of a person."""
        row = row_named(self.folk, name)
        if row is None:
            raise NoPerson(name)
        return row

    def good(self, thing):
        """The row of a thing."""
        row = row_named(self.things, thing)
        if row is None:
            raise NoThing(thing)
        return row

    def lines(self):
        """The lines of its text."""
        people = [person_line(name, parent) for name, parent in self.folk]
        things = [f"thing {name} {kind} {worth}" for name, kind, worth in self.things]
        return [f"purse {self.purse}", f"debts {self.debts}", *people, *things]

    def __len__(self):
        return len(self.folk)

    def __eq__(self, other):
        if not isinstance(other, House):
            return False
        if self.purse != other.purse or self.debts != other.debts:
            return False
        return self.folk == other.folk and self.things == other.things

    def __str__(self):
        return "\n".join(self.lines())

    def __repr__(self):
        return f"House({len(self.folk)}, {len(self.things)})"


def check_persons(house, names):
    """Refuse the first of the names that the house hasn't."""
    people = house.people()
    for name in names:
        if name not in people:
            raise NoPerson(name)


def check_thing(house, name):
    """Refuse a name of any kind that none of the house's things has."""
    house.good(name)
