"""Conditions, WHOMs, clauses and wills by chance, each from a random.Random that is handed in."""

from willdealt.conds import is_cond

NAMES = ("ann", "ben", "cat", "dan", "eve", "one", "rest", "none", "abcdefgh")


def any_tree(dice, names, deep):
    """What may be a condition, or have too many names."""
    word = dice.choice(("lives", "lives", "childless", "not", "and", "or") if deep > 1 else ("lives", "childless"))
    if word in ("lives", "childless"):
        day = (dice.randint(-3, 3),) if word == "lives" and dice.random() < 0.5 else ()
        return (word, dice.choice(names), *day)
    many = 1 if word == "not" else dice.choice((2, 2, 3))
    return (word, *[any_tree(dice, names, deep - 1) for turn in range(many)])


def any_cond(dice, names=NAMES, deep=4):
    while True:
        cond = any_tree(dice, names, deep)
        if is_cond(cond):
            return cond


def any_whom(dice, names=NAMES):
    return tuple(
        tuple(
            (dice.choice(("one", "children", "stock", "stock")), dice.choice(names))
            for part in range(dice.randint(1, dice.choice((1, 2, 6)))))
        for alternative in range(dice.randint(1, dice.choice((1, 2, 4)))))


def any_clause(dice, names=NAMES):
    word = dice.choice(("give", "kind", "pay", "rest", "ranks", "wait"))
    if word == "ranks":
        return (word, tuple(dice.sample(("rest", "kinds", "sums", "names"), 4)))
    if word == "wait":
        return (word, dice.choice((0, 1, 9999)))
    what = {"pay": dice.choice((0, 7, 10 ** 9)), "rest": dice.choice((1, 50, 99))}.get(word, dice.choice(names))
    cond = any_cond(dice, names, dice.choice((2, 4, 6))) if dice.random() < 0.7 else None
    return (word, what, any_whom(dice, names), cond)


def any_clauses(dice, names=NAMES, most=16):
    return tuple(any_clause(dice, names) for turn in range(dice.randint(0, most)))
