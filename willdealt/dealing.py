"""A house dealt out by a will in a story."""

from willdealt.burdens import falls_on, rest_worth, wanted_of_purse
from willdealt.courses import Course, check_names
from willdealt.dealings import Dealing
from willdealt.pennies import parted
from willdealt.wills import ranks_of


def parted_rows(word, number, taking, thing, pennies):
    """The rows of those who part pennies by their shares."""
    parts = parted(pennies, tuple([share for name, share in taking]))
    return [(word, number, name, thing, part, 0) for (name, share), part in zip(taking, parts)]


def rows_of_thing(course, thing, turn, fall):
    """The rows of a thing, the TURNth, from 0, that its clause gives."""
    number = course.givers[thing]
    word = course.giving_word(thing)
    taking = course.taking(number)
    worth = course.house.worth(thing)
    if word == "give" and len(taking) > 1:
        return parted_rows("sold", number, taking, thing, worth - fall)
    name, share = taking[turn % len(taking)]
    return [(word, number, name, thing, worth, fall)]


def thing_rows(course, falls):
    """The rows of all things that clauses give, as the house has them."""
    rows = []
    turns = {}
    for thing in course.house.goods():
        number = course.givers[thing]
        if number is not None:
            turn = turns.get(number, 0)
            turns[number] = turn + 1
            rows.extend(rows_of_thing(course, thing, turn, falls[thing]))
    return rows


def pay_rows(course, falls):
    """The rows of all pays that go, by number."""
    return [
        row for number, amount in course.going("pay")
        for row in parted_rows("pay", number, course.taking(number), None, amount - falls[number])
    ]


def rest_rows(course, rest):
    """The rows of the rest: by number of those that go, else the crown's."""
    going = course.going("rest")
    if len(going) == 0:
        return [("crown", None, "crown", None, rest, 0)]
    parts = parted(rest, tuple([(weight, 1) for number, weight in going]))
    return [
        row for (number, weight), part in zip(going, parts)
        for row in parted_rows("rest", number, course.taking(number), None, part)
    ]


def is_later(course, number, word):
    """Tell whether another clause with the word stands behind the one of a number."""
    return any([clause[0] == word for at, clause in course.numbered if at > number])


def gives_nothing(course, number):
    """Tell whether none of the things goes by the clause of a number."""
    return not any([course.givers[thing] == number for thing in course.givers])


def why_idle(course, number, clause):
    """Why a clause does nothing, None where it does something."""
    word, what = clause[0], clause[1]
    if word == "ranks" or word == "wait":
        return "later" if is_later(course, number, word) else None
    if word == "kind" and len(course.house.goods(what)) == 0:
        return "none"
    if not course.goes(number):
        return course.ends[number][0]
    if word == "give" or word == "kind":
        return "later" if gives_nothing(course, number) else None
    return None


def idle_clauses(course):
    """The (NUMBER, WHY) of all clauses that do nothing, by number."""
    rows = [(number, why_idle(course, number, clause)) for number, clause in course.numbered]
    return tuple([(number, reason) for number, reason in rows if reason is not None])


def deal(house, will, story):
    """The dealing of a house by a will in a story."""
    check_names(house, will)
    course = Course(house, will, story)
    falls, lacking = falls_on(course, ranks_of(will))
    more = max(0, house.purse - wanted_of_purse(course))
    rest = more + rest_worth(course) - falls[None]
    rows = thing_rows(course, falls) + pay_rows(course, falls) + rest_rows(course, rest)
    return Dealing(tuple(rows), house.debts - lacking, lacking, idle_clauses(course))
