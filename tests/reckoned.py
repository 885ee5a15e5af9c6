"""A dealing reckoned once more, by fractions and without the program's own functions, to hold deal against."""

from fractions import Fraction
from math import floor


class Reckoned:
    """What is to be told of a house, given as tuples, a will's clauses and a story's deaths."""

    def __init__(self, people, goods, purse, debts, clauses, deaths):
        self.people, self.goods, self.clauses = people, goods, clauses
        self.deaths = dict(deaths)
        self.wait = ([0] + [clause[1] for clause in clauses if clause[0] == "wait"])[-1]
        ranks = [clause[1] for clause in clauses if clause[0] == "ranks"]
        self.ranks = ranks[-1] if ranks else ("rest", "kinds", "sums", "names")
        self.deal(purse, debts)

    def stands(self, name, day=None):
        return self.deaths.get(name, 10 ** 6) > (self.wait if day is None else day)

    def children(self, name):
        return [child for child, parent in self.people if parent == name]

    def comes(self, cond):
        if cond is None:
            return True
        if cond[0] == "lives":
            return self.stands(*cond[1:])
        if cond[0] == "childless":
            return not [child for child in self.children(cond[1]) if self.stands(child)]
        told = [self.comes(term) for term in cond[1:]]
        return {"not": not told[0], "and": False not in told, "or": True in told}[cond[0]]

    def part(self, word, name):
        """A list of (NAME, Fraction) that together are 1, or nothing."""
        if word == "one" or (word == "stock" and self.stands(name)):
            return [(name, Fraction(1))] if self.stands(name) else []
        inner = "one" if word == "children" else "stock"
        return self.equally([self.part(inner, child) for child in self.children(name)])

    def equally(self, groups):
        groups = [group for group in groups if group]
        return [(name, share / len(groups)) for group in groups for name, share in group]

    def takers(self, whom):
        for alternative in whom:
            told = self.equally([self.part(word, name) for word, name in alternative])
            if told:
                names = list(dict.fromkeys(name for name, share in told))
                return [(name, sum(share for other, share in told if other == name)) for name in names]
        return []

    def parted(self, amount, shares):
        exact = [Fraction(amount) * share / sum(shares) for share in shares]
        told = [floor(part) for part in exact]
        lacking = amount - sum(told)
        for at in [at for at, part in enumerate(exact) if part.denominator != 1][:lacking]:
            told[at] += 1
        return told

    def end(self, clause):
        if not self.comes(clause[3]):
            return "if"
        return "gives" if self.takers(clause[2]) else "want"

    def looked(self, name, kind):
        """The tuple that why tells."""
        told = []
        for pair in (("give", name), ("kind", kind)):
            for number in range(len(self.clauses) - 1, -1, -1):
                clause = self.clauses[number]
                if clause[:2] == pair:
                    told.append((number, self.end(clause)))
                    if told[-1][1] == "gives":
                        return tuple(told)
        return (*told, (None, "rest"))

    def going(self, word):
        return [
            (number, clause) for number, clause in enumerate(self.clauses)
            if clause[0] == word and self.end(clause) == "gives"]

    def fall(self, lacking, pays):
        """Set what falls on each (rank, index), and what stays unpaid."""
        words = [self.clauses[number][0] if number is not None else None for number in self.givers]
        bearing = {
            "rest": [("rest", sum(good[2] for good, word in zip(self.goods, words) if word is None))],
            "kinds": [(good[0], good[2]) for good, word in zip(self.goods, words) if word == "kind"],
            "names": [(good[0], good[2]) for good, word in zip(self.goods, words) if word == "give"],
            "sums": [(number, clause[1]) for number, clause in pays],
        }
        self.falls = {(rank, key): 0 for rank in bearing for key, worth in bearing[rank]}
        for rank in self.ranks:
            able = [(key, worth) for key, worth in bearing[rank] if worth]
            borne = min(lacking, sum(worth for key, worth in able))
            if able:
                for (key, worth), part in zip(able, self.parted(borne, [worth for key, worth in able])):
                    self.falls[rank, key] = part
            lacking -= borne
        self.unpaid = lacking
        return bearing["rest"][0][1]

    def deal(self, purse, debts):
        self.why = {name: self.looked(name, kind) for name, kind, worth in self.goods}
        self.givers = [self.why[good[0]][-1][0] for good in self.goods]
        pays = self.going("pay")
        wanted = debts + sum(clause[1] for number, clause in pays)
        rest = self.fall(max(wanted - purse, 0), pays) - self.falls["rest", "rest"] + max(purse - wanted, 0)
        self.paid = debts - self.unpaid
        self.rows = []
        for at, (name, kind, worth) in enumerate(self.goods):
            self.deal_thing(at, name, worth)
        for number, clause in pays:
            self.deal_out("pay", number, None, clause[1] - self.falls["sums", number])
        self.deal_rest(rest)
        self.fallen = [(number, self.idle(number)) for number in range(len(self.clauses)) if self.idle(number)]

    def deal_thing(self, at, name, worth):
        number = self.givers[at]
        if number is None:
            return
        word, what, whom, cond = self.clauses[number]
        names = [taker for taker, share in self.takers(whom)]
        owes = self.falls["names" if word == "give" else "kinds", name]
        if word == "give" and len(names) > 1:
            self.deal_out("sold", number, name, worth - owes)
        else:
            taker = names[self.givers[:at].count(number) % len(names)]
            self.rows.append((word, number, taker, name, worth, owes))

    def deal_out(self, word, number, thing, pennies):
        takers = self.takers(self.clauses[number][2])
        for (name, share), part in zip(takers, self.parted(pennies, [share for name, share in takers])):
            self.rows.append((word, number, name, thing, part, 0))

    def deal_rest(self, rest):
        rests = self.going("rest")
        if not rests:
            self.rows.append(("crown", None, "crown", None, rest, 0))
            return
        for (number, clause), part in zip(rests, self.parted(rest, [clause[1] for number, clause in rests])):
            self.deal_out("rest", number, None, part)

    def idle(self, number):
        clause = self.clauses[number]
        if clause[0] in ("ranks", "wait"):
            return "later" if clause[0] in [each[0] for each in self.clauses[number + 1:]] else None
        if clause[0] == "kind" and clause[1] not in [kind for name, kind, worth in self.goods]:
            return "none"
        if self.end(clause) != "gives":
            return self.end(clause)
        return "later" if clause[0] in ("give", "kind") and number not in self.givers else None


def reckoned(house, will, story):
    """The dealing of a House, Will and Story, asked only for what they tell."""
    people = [(name, house.parent(name)) for name in house.people()]
    goods = [(thing, house.kind(thing), house.worth(thing)) for thing in house.goods()]
    deaths = [(name, story.died(name)) for name in house.people() if story.died(name) is not None]
    return Reckoned(people, goods, house.purse, house.debts, will.clauses(), deaths)
