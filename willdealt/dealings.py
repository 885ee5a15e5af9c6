"""Dealings: who has what, by which clause."""

from willdealt.errors import NoName
from willdealt.names import is_name, is_word


def check_taker(name):
    """Refuse what is neither a name nor the crown."""
    if not is_name(name) and not is_word(name, ("crown",)):
        raise NoName(name)


class Dealing:
    """What a house was dealt out to, which never changes."""

    def __init__(self, dealt, settled, owing, idle):
        self.dealt = dealt
        self.settled = settled
        self.owing = owing
        self.idle = idle

    def rows(self):
        """All (WORD, NUMBER, TAKER, THING, GETS, OWES)."""
        return self.dealt

    def holds(self, name):
        """The things, rising, that a name holds."""
        check_taker(name)
        return tuple(sorted([
            thing for word, number, taker, thing, gets, owes in self.dealt
            if taker == name and (word == "give" or word == "kind")
        ]))

    def net(self, name):
        """All that a name gets less all that it owes."""
        check_taker(name)
        return sum([gets - owes for word, number, taker, thing, gets, owes in self.dealt if taker == name])

    def takers(self):
        """All, rising, who hold a thing or whose net isn't 0."""
        names = sorted(set([row[2] for row in self.dealt]))
        return tuple([name for name in names if self.net(name) != 0 or len(self.holds(name)) > 0])

    def paid(self):
        """What is paid of the debts."""
        return self.settled

    def unpaid(self):
        """What stays unpaid of the debts."""
        return self.owing

    def each(self, deed):
        """What a deed tells of each taker's name and net, rising."""
        return [deed(name, self.net(name)) for name in self.takers()]

    def fallen(self):
        """The (NUMBER, WHY) of all clauses that do nothing, by number."""
        return self.idle

    def lots(self):
        """The (NAME, THINGS, NET) of all takers, rising."""
        return [(name, self.holds(name), self.net(name)) for name in self.takers()]

    def lines(self):
        """A line for each taker."""
        return [f"{name}: " + ", ".join([*things, str(net)]) for name, things, net in self.lots()]

    def __len__(self):
        return len(self.takers())

    def __eq__(self, other):
        return isinstance(other, Dealing) and self.owing == other.owing and self.lots() == other.lots()

    def __str__(self):
        if len(self.takers()) == 0:
            return "nothing"
        return "\n".join(self.lines())

    def __repr__(self):
        return f"Dealing({len(self.takers())})"
