"""What lacks in the purse, and how it falls on the gifts by their ranks.

What falls is kept in a dict: of a thing by its name, of a pay by its number,
of the rest by None.
"""

from willdealt.pennies import parted


def rest_worth(course):
    """The worth of all things that are sold into the rest."""
    return sum([course.house.worth(thing) for thing in course.given_by(None)])


def wanted_of_purse(course):
    """All pays that go, and the debts."""
    return course.house.debts + sum([amount for number, amount in course.going("pay")])


def bearers(course, rank):
    """The (KEY, WORTH) of all that what lacks may fall on in a rank."""
    if rank == "rest":
        return [(None, rest_worth(course))]
    if rank == "sums":
        return course.going("pay")
    things = course.given_by("kind" if rank == "kinds" else "give")
    return [(thing, course.house.worth(thing)) for thing in things]


def falls_within(rows, burden):
    """How a burden that (KEY, WORTH) rows can bear falls on them."""
    # Sums can't be parted by shares that are all nought.
    if burden == 0:
        return {key: 0 for key, worth in rows}
    parts = parted(burden, tuple([(worth, 1) for key, worth in rows]))
    return {key: part for (key, worth), part in zip(rows, parts)}


def falls_on(course, ranks):
    """What falls on each gift, and what of the debts stays unpaid."""
    lacking = max(0, wanted_of_purse(course) - course.house.purse)
    falls = {}
    for rank in ranks:
        rows = bearers(course, rank)
        burden = min(lacking, sum([worth for key, worth in rows]))
        falls.update(falls_within(rows, burden))
        lacking -= burden
    return falls, lacking
