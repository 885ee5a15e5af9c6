"""Conditions: what they are, and when they come."""

from willdealt.days import is_day
from willdealt.errors import NoCond, NoDay
from willdealt.houses import check_persons
from willdealt.names import is_name, is_word

MOST_DEEP = 6
FEWEST_TERMS = 2
MOST_TERMS = 6
MOST_NAMES = 12
COND_WORDS = ("lives", "childless", "not", "and", "or")


def is_lives(thing):
    """Tell whether a tuple that begins with lives is a condition."""
    if len(thing) == 3:
        return is_name(thing[1]) and is_day(thing[2])
    return len(thing) == 2 and is_name(thing[1])


def is_formed(thing, room):
    """Tell whether a thing is formed as a condition, ROOM of them within one another at most."""
    if room == 0 or not isinstance(thing, tuple) or len(thing) < 2:
        return False
    word = thing[0]
    if not is_word(word, COND_WORDS):
        return False
    if word == "lives":
        return is_lives(thing)
    if word == "childless":
        return len(thing) == 2 and is_name(thing[1])
    if word == "not":
        return len(thing) == 2 and is_formed(thing[1], room - 1)
    terms = thing[1:]
    if not FEWEST_TERMS <= len(terms) <= MOST_TERMS:
        return False
    return all([is_formed(term, room - 1) for term in terms])


def leaves(cond):
    """All of a condition's lives and childless, from the left; none of None."""
    if cond is None:
        return []
    if cond[0] == "lives" or cond[0] == "childless":
        return [cond]
    return [leaf for term in cond[1:] for leaf in leaves(term)]


def cond_names(cond):
    """All names in a condition, from the left, alike ones each."""
    return [leaf[1] for leaf in leaves(cond)]


def is_cond(thing):
    """Tell whether a thing of any kind is a condition."""
    return is_formed(thing, MOST_DEEP) and len(leaves(thing)) <= MOST_NAMES


def is_cond_or_none(thing):
    """Tell whether a thing of any kind may stand where a condition may be left out."""
    return thing is None or is_cond(thing)


def has_come(house, cond, story, wait):
    """Tell whether a condition comes, all of its names being the house's."""
    word = cond[0]
    if word == "lives":
        return story.lives(cond[1], cond[2] if len(cond) == 3 else wait)
    if word == "childless":
        return not any([story.lives(child, wait) for child in house.children(cond[1])])
    told = [has_come(house, term, story, wait) for term in cond[1:]]
    if word == "not":
        return not told[0]
    return all(told) if word == "and" else any(told)


def comes(house, cond, story, wait=0):
    """Tell whether a condition comes in a story; None always comes."""
    if not is_cond_or_none(cond):
        raise NoCond()
    if not is_day(wait):
        raise NoDay(wait)
    check_persons(house, cond_names(cond))
    return cond is None or has_come(house, cond, story, wait)
