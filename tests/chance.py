"""Conditions, WHOMs, clauses, wills, houses and stories by chance, from a random.Random that is handed in."""

from willdealt.conds import is_cond
from willdealt.houses import House
from willdealt.stories import Story
from willdealt.wills import Will

NAMES = ("ann", "ben", "cat", "dan", "eve", "one", "rest", "none", "abcdefgh")
# Things may have people's names, and those of words that are no keywords.
THINGS = ("cup", "ring", "bed", "ann", "rest", "give", "nothing", "pay", "field")
KINDS = ("gold", "wood", "rest")
RANKS = ("rest", "kinds", "sums", "names")


def any_tree(dice, names, deep):
    """What may be a condition, or have too many names."""
    word = dice.choice(("lives", "lives", "childless", "not", "and", "or") if deep > 1 else ("lives", "childless"))
    if word in ("lives", "childless"):
        day = (dice.randint(-3, 3),) if word == "lives" and dice.random() < 0.5 else ()
        return (word, dice.choice(names), *day)
    many = 1 if word == "not" else dice.choice((2, 2, 3))
    return (word, *[any_tree(dice, names, deep - 1) for turn in range(many)])


def any_cond(dice, names=NAMES, deep=4):
    while True:
        cond = any_tree(dice, names, deep)
        if is_cond(cond):
            return cond


def any_whom(dice, names=NAMES):
    return tuple(
        tuple(
            (dice.choice(("one", "children", "stock", "stock")), dice.choice(names))
            for part in range(dice.randint(1, dice.choice((1, 2, 6)))))
        for alternative in range(dice.randint(1, dice.choice((1, 2, 4)))))


def any_clause(dice, names=NAMES):
    word = dice.choice(("give", "kind", "pay", "rest", "ranks", "wait"))
    if word == "ranks":
        return (word, tuple(dice.sample(RANKS, 4)))
    if word == "wait":
        return (word, dice.choice((0, 1, 9999)))
    what = {"pay": dice.choice((0, 7, 10 ** 9)), "rest": dice.choice((1, 50, 99))}.get(word, dice.choice(names))
    cond = any_cond(dice, names, dice.choice((2, 4, 6))) if dice.random() < 0.7 else None
    return (word, what, any_whom(dice, names), cond)


def any_clauses(dice, names=NAMES, most=16):
    return tuple(any_clause(dice, names) for turn in range(dice.randint(0, most)))


def any_house(dice, most_people=5, most_goods=8):
    """A house with people of NAMES, things of three kinds, and sums that often lie close together."""
    names = dice.sample(NAMES, dice.randint(1, most_people))
    people = [(name, dice.choice((None, *names[:at]))) for at, name in enumerate(names)]
    things = dice.sample(THINGS, dice.randint(0, most_goods))
    goods = [(thing, dice.choice(KINDS), dice.choice((0, 1, 2, 7, 10, 33, 100))) for thing in things]
    return House(tuple(people), tuple(goods), dice.choice((0, 1, 50, 200)), dice.choice((0, 0, 3, 60, 150, 900)))


def any_gift(dice, house, days=(-1, 0, 2)):
    """A gift of which the house has all names; perhaps it hasn't the kind."""
    names = house.people()
    word = dice.choice(("give", "give", "kind", "pay", "rest") if house.goods() else ("kind", "pay", "rest"))
    what = {
        "kind": dice.choice((*KINDS, "lead")), "pay": dice.choice((0, 1, 10, 40, 75)),
        "rest": dice.choice((1, 2, 3, 99)),
    }.get(word) or (dice.choice(house.goods()) if word == "give" else 0)
    cond = any_days(dice, any_cond(dice, names, dice.choice((1, 2, 3))), days) if dice.random() < 0.4 else None
    return (word, what, any_whom(dice, names), cond)


def any_days(dice, cond, days):
    """A condition with its days drawn from a few."""
    if cond[0] == "lives":
        return cond[:2] + ((dice.choice(days),) if len(cond) == 3 else ())
    if cond[0] == "childless":
        return cond
    return (cond[0], *[any_days(dice, term, days) for term in cond[1:]])


def any_will(dice, house, most=9, days=(-1, 0, 2)):
    """A will that the house can be dealt by."""
    clauses = [any_gift(dice, house, days) for turn in range(dice.randint(0, most))]
    for turn in range(dice.choice((0, 0, 1, 2))):
        clauses.insert(dice.randint(0, len(clauses)), ("ranks", tuple(dice.sample(RANKS, 4))))
    for turn in range(dice.choice((0, 0, 1, 2))):
        clauses.insert(dice.randint(0, len(clauses)), ("wait", dice.choice((0, 1, 2))))
    return Will(tuple(clauses))


def any_story(dice, house, days=(-2, -1, 0, 1, 2, 3)):
    """A story of some of the house's people, and perhaps a stranger."""
    names = [name for name in (*house.people(), "stranger") if dice.random() < 0.4]
    return Story(tuple((name, dice.choice(days)) for name in sorted(names)[:8]))
