"""Cases: the few stories that stand for all others."""

from willdealt.conds import leaves
from willdealt.errors import TooMany
from willdealt.stories import Story
from willdealt.wills import wait_of

MOST_CASES = 256


def clause_days(clause):
    """All days in a clause's condition."""
    if len(clause) < 4:
        return []
    return [leaf[2] for leaf in leaves(clause[3]) if len(leaf) == 3]


def hours(will):
    """The days, rising, of which it counts whether somebody outlives them."""
    days = [day for clause in will.clauses() for day in clause_days(clause)]
    return tuple(sorted(set([wait_of(will), *days])))


def how_many(people, days):
    """How many cases there are of so many people and days."""
    many = 1
    for turn in range(people):
        many *= days + 1
    return many


def all_deaths(names, days):
    """All that names, rising, may die on: tuples of (NAME, DAY)."""
    rows = [()]
    for name in names:
        ends = [()] + [((name, day),) for day in days]
        rows = [row + end for row in rows for end in ends]
    return rows


def cases_of_days(house, days):
    """All stories in which each person lives on or dies on one of the days, those with fewer deaths ahead."""
    many = how_many(len(house.people()), len(days))
    if many > MOST_CASES:
        raise TooMany(many)
    rows = all_deaths(sorted(house.people()), days)
    return tuple([Story(row) for row in sorted(rows, key=lambda deaths: (len(deaths), deaths))])


def cases(house, will):
    """All cases, those with fewer deaths ahead, then by deaths."""
    return cases_of_days(house, hours(will))


def case_death(story, name, days):
    """The (NAME, DAY) of a name in the case of a story, alone in a tuple, () where it outlives all days."""
    for day in days:
        if not story.lives(name, day):
            return ((name, day),)
    return ()


def case_of(house, will, story):
    """The case in which each person outlives just those hours that it outlives in the story."""
    days = hours(will)
    rows = [case_death(story, name, days) for name in sorted(house.people())]
    return Story(tuple([death for row in rows for death in row]))
