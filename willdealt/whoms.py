"""To whom something goes: who takes, and how much."""

from willdealt.days import is_day
from willdealt.errors import NoDay, NoWhom
from willdealt.houses import check_persons
from willdealt.names import is_name, is_word
from willdealt.pennies import common_measure

MOST_ALTERNATIVES = 4
MOST_PARTS = 6
PART_WORDS = ("one", "children", "stock")


def is_part(thing):
    """Tell whether a thing of any kind is a part of an alternative."""
    if not isinstance(thing, tuple) or len(thing) != 2:
        return False
    return is_word(thing[0], PART_WORDS) and is_name(thing[1])


def is_alternative(thing):
    """Tell whether a thing of any kind is an alternative."""
    if not isinstance(thing, tuple) or not 1 <= len(thing) <= MOST_PARTS:
        return False
    return all([is_part(part) for part in thing])


def is_whom(thing):
    """Tell whether a thing of any kind says to whom something goes."""
    if not isinstance(thing, tuple) or not 1 <= len(thing) <= MOST_ALTERNATIVES:
        return False
    return all([is_alternative(alternative) for alternative in thing])


def whom_names(whom):
    """All names told, from the left."""
    return [name for alternative in whom for word, name in alternative]


# Within a part each share is one by a whole number, its bottom: parting equally
# among some only multiplies the bottoms.

def parted_equally(groups):
    """The (NAME, BOTTOM) of all groups that have somebody, each group with an equal share."""
    having = [group for group in groups if len(group) > 0]
    return [(name, bottom * len(having)) for group in having for name, bottom in group]


def stock_takers(house, name, story, wait):
    """The (NAME, BOTTOM) of those that a stock has."""
    if story.lives(name, wait):
        return [(name, 1)]
    return parted_equally([stock_takers(house, child, story, wait) for child in house.children(name)])


def part_takers(house, part, story, wait):
    """The (NAME, BOTTOM) of those that a part has."""
    word, name = part
    if word == "stock":
        return stock_takers(house, name, story, wait)
    names = (name,) if word == "one" else house.children(name)
    return parted_equally([[(each, 1)] for each in names if story.lives(each, wait)])


def plus_share(share, bottom):
    """A fraction and one by BOTTOM together, in lowest terms."""
    top = share[0] * bottom + share[1]
    below = share[1] * bottom
    measure = common_measure(top, below)
    return (top // measure, below // measure)


def summed(rows):
    """The (NAME, SHARE) of each name in (NAME, BOTTOM) rows, in the order in which they first come."""
    shares = {}
    for name, bottom in rows:
        shares[name] = plus_share(shares.get(name, (0, 1)), bottom)
    return tuple([(name, shares[name]) for name in shares])


def takers(house, whom, story, wait=0):
    """The (NAME, SHARE) of all who take in a story, () where nobody does."""
    if not is_whom(whom):
        raise NoWhom()
    if not is_day(wait):
        raise NoDay(wait)
    check_persons(house, whom_names(whom))
    for alternative in whom:
        rows = parted_equally([part_takers(house, part, story, wait) for part in alternative])
        if len(rows) > 0:
            return summed(rows)
    return ()
