"""Whole numbers, fractions, and sums parted to the penny."""

from willdealt.errors import NoShares, NoSum

MOST_PENNIES = 10 ** 12
MOST_SUM = 10 ** 9
MOST_SHARES = 64


def is_whole(thing):
    """Tell whether a thing of any kind is a whole number."""
    return isinstance(thing, int) and not isinstance(thing, bool)


def is_sum(thing):
    """Tell whether a thing of any kind is a sum that a house or a will may tell."""
    return is_whole(thing) and 0 <= thing <= MOST_SUM


def common_measure(one, other):
    """The greatest number that divides two numbers from 0 on."""
    while other != 0:
        one, other = other, one % other
    return one


def is_fraction(thing):
    """Tell whether a thing of any kind is a fraction."""
    if not isinstance(thing, tuple) or len(thing) != 2:
        return False
    top, bottom = thing
    if not is_whole(top) or not is_whole(bottom) or bottom < 1:
        return False
    return common_measure(abs(top), bottom) == 1


def are_shares(thing):
    """Tell whether a thing of any kind is a tuple of shares that can be parted by."""
    if not isinstance(thing, tuple) or not 1 <= len(thing) <= MOST_SHARES:
        return False
    if not all([is_fraction(share) and share[0] >= 0 for share in thing]):
        return False
    return any([share[0] > 0 for share in thing])


def whole_weights(shares):
    """Whole numbers that stand to one another as the shares do."""
    bottom = 1
    for share in shares:
        bottom = bottom // common_measure(bottom, share[1]) * share[1]
    return [share[0] * (bottom // share[1]) for share in shares]


def parted(amount, shares):
    """Part an amount by shares, to the penny: a tuple of as many sums as shares."""
    if not is_whole(amount) or not 0 <= amount <= MOST_PENNIES:
        raise NoSum(amount)
    if not are_shares(shares):
        raise NoShares()
    weights = whole_weights(shares)
    together = sum(weights)
    pennies = [amount * weight // together for weight in weights]
    lacking = amount - sum(pennies)
    for at, weight in enumerate(weights):
        if lacking > 0 and amount * weight % together != 0:
            pennies[at] += 1
            lacking -= 1
    return tuple(pennies)
