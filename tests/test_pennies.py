"""Points [2] and [5]: whole numbers, fractions, and sums parted to the penny."""

import itertools
import random
import unittest
from fractions import Fraction

from willdealt.errors import NoShares, NoSum
from willdealt.pennies import is_fraction, is_whole, parted

HALF = (1, 2)
ONE = (1, 1)
NOUGHT = (0, 1)
SHARES = (ONE, HALF)

NO_AMOUNTS = (
    -1, -(10 ** 12), 10 ** 12 + 1, 10 ** 13, 10 ** 5000, True, False, None, "", "1", "abc",
    b"1", (), (1,), [1], {}, {1: 1}, Fraction(3),
)

NO_FRACTIONS = (
    (2, 4), (2, 2), (10, 5), (0, 2), (0, 7), (6, 9), (1, 0), (0, 0), (1, -1), (-1, -2),
    (0, -1), (-1, 2), (-1, 1), (True, 1), (1, True), (False, 1), (True, 2), (True, True),
    (), (1,), (1, 2, 3), (1, 2, 1), [1, 2], None, True, 0, 1, "12", "", b"12", {1: 2}, ("1", 2),
    (1, "2"), (None, 1), (1, None), ((1, 1), 1), (1, (1, 1)), Fraction(1, 2),
)

NO_SHARES = (
    (), [], [ONE], [ONE, HALF], None, True, 0, 1, "", "ab", b"ab", {}, {ONE: ONE}, {ONE},
    (NOUGHT,), (NOUGHT, NOUGHT), (NOUGHT,) * 64, (ONE,) * 65, (ONE,) * 200, ONE, HALF,
)


def exact(amount, shares):
    """What point [5] says, told with Python's own fractions."""
    parts = [Fraction(top, bottom) for top, bottom in shares]
    whole = sum(parts)
    parts = [amount * part / whole for part in parts]
    pennies = [part.numerator // part.denominator for part in parts]
    uneven = [at for at, part in enumerate(parts) if part.denominator != 1]
    for at in uneven[:amount - sum(pennies)]:
        pennies[at] += 1
    return tuple(pennies)


def lowest(top, bottom):
    share = Fraction(top, bottom)
    return (share.numerator, share.denominator)


class Refusals(unittest.TestCase):
    def test_amounts(self):
        for amount in NO_AMOUNTS:
            with self.assertRaises(NoSum) as caught:
                parted(amount, SHARES)
            self.assertIs(caught.exception.thing, amount)

    def test_shares(self):
        for shares in NO_SHARES:
            for amount in (0, 1, 10 ** 12):
                with self.assertRaises(NoShares):
                    parted(amount, shares)

    def test_one_share_that_is_none(self):
        for thing in NO_FRACTIONS:
            for shares in ((thing,), (thing, ONE), (ONE, thing), (ONE, HALF, thing, NOUGHT)):
                with self.assertRaises(NoShares, msg=repr(shares)):
                    parted(10, shares)

    def test_amount_is_refused_ahead_of_shares(self):
        for amount, shares in itertools.product(NO_AMOUNTS, NO_SHARES):
            with self.assertRaises(NoSum) as caught:
                parted(amount, shares)
            self.assertIs(caught.exception.thing, amount)

    def test_the_bounds_are_let(self):
        self.assertEqual(parted(0, (ONE,)), (0,))
        self.assertEqual(parted(10 ** 12, (ONE,)), (10 ** 12,))
        self.assertEqual(parted(7, (NOUGHT,) * 63 + (ONE,)), (0,) * 63 + (7,))
        self.assertEqual(parted(64, (ONE,) * 64), (1,) * 64)

    def test_by_name_too(self):
        with self.assertRaises(NoSum):
            parted(shares=(), amount=-1)
        with self.assertRaises(NoShares):
            parted(shares=(), amount=1)


class Parts(unittest.TestCase):
    def test_whole_parts(self):
        self.assertEqual(parted(6, (ONE, ONE)), (3, 3))
        self.assertEqual(parted(6, (HALF, ONE)), (2, 4))
        self.assertEqual(parted(12, ((1, 2), (1, 3), (1, 6))), (6, 4, 2))

    def test_the_first_have_what_lacks(self):
        self.assertEqual(parted(1, (ONE, ONE)), (1, 0))
        self.assertEqual(parted(5, (ONE, ONE, ONE)), (2, 2, 1))
        self.assertEqual(parted(100, (ONE,) * 3), (34, 33, 33))
        self.assertEqual(parted(63, (ONE,) * 64), (1,) * 63 + (0,))

    def test_not_the_ones_nearest_to_the_next_penny(self):
        # The exact parts are 1/10 and 9/10: the first has the penny all the same.
        self.assertEqual(parted(1, (ONE, (9, 1))), (1, 0))

    def test_whole_parts_have_none_of_what_lacks(self):
        # The exact parts are 2, 3/2, 3/2, 1.
        self.assertEqual(parted(6, ((4, 1), (3, 1), (3, 1), (2, 1))), (2, 2, 1, 1))
        # The exact parts are 1, 1/3, 1/3, 1/3, 1.
        shares = (ONE, (1, 3), (1, 3), (1, 3), ONE)
        self.assertEqual(parted(3, shares), (1, 1, 0, 0, 1))

    def test_nought_has_nothing(self):
        self.assertEqual(parted(1, (NOUGHT, ONE, ONE)), (0, 1, 0))
        self.assertEqual(parted(10, (NOUGHT, ONE, NOUGHT)), (0, 10, 0))
        self.assertEqual(parted(5, (ONE, NOUGHT, ONE, NOUGHT, ONE)), (2, 0, 2, 0, 1))

    def test_amount_nought(self):
        self.assertEqual(parted(0, (ONE, (1, 3), NOUGHT)), (0, 0, 0))

    def test_one_share_has_all_whatever_it_is(self):
        for share in (ONE, HALF, (7, 3), (1, 10 ** 40), (10 ** 40, 1)):
            self.assertEqual(parted(10 ** 12, (share,)), (10 ** 12,))

    def test_shares_more_or_less_than_one_together(self):
        self.assertEqual(parted(9, ((5, 1), (4, 1))), (5, 4))
        # The exact parts are 9 * 101 / 301 and 9 * 200 / 301.
        self.assertEqual(parted(9, ((1, 100), (2, 101))), (4, 5))
        self.assertEqual(parted(10, ((1, 10), (1, 10))), (5, 5))

    def test_great_bottoms(self):
        great = 10 ** 30
        shares = ((1, great), (1, great + 1), (great - 1, great))
        self.assertEqual(parted(10 ** 12, shares), (1, 0, 10 ** 12 - 1))
        shares = tuple((1, 10 ** 20 + at) for at in range(64))
        self.assertEqual(parted(10 ** 12, shares), exact(10 ** 12, shares))

    def test_parts_are_exact_where_points_would_not_do(self):
        # The exact parts lie beside a whole number, by less than 10 ** -20.
        shares = ((10 ** 40 - 1, 10 ** 40), (10 ** 40 + 1, 10 ** 40))
        self.assertEqual(parted(10 ** 12, shares), (5 * 10 ** 11, 5 * 10 ** 11))
        shares = ((10 ** 40 + 1, 10 ** 40), (10 ** 40 - 1, 10 ** 40))
        self.assertEqual(parted(10 ** 12, shares), (5 * 10 ** 11 + 1, 5 * 10 ** 11 - 1))

    def test_alike_bottoms(self):
        shares = ((1, 7), (2, 7), (3, 7), (8, 7))
        self.assertEqual(parted(14, shares), (1, 2, 3, 8))
        self.assertEqual(parted(15, shares), (2, 2, 3, 8))

    def test_all_small_ones(self):
        some = (NOUGHT, ONE, HALF, (2, 3), (3, 1))
        for many in (1, 2, 3):
            for shares in itertools.product(some, repeat=many):
                if any(top for top, bottom in shares):
                    for amount in range(13):
                        self.assertEqual(parted(amount, shares), exact(amount, shares))

    def test_many_others(self):
        dice = random.Random(5)
        for turn in range(600):
            bound = dice.choice((3, 12, 10 ** 6, 10 ** 25))
            shares = tuple(
                lowest(dice.randint(0, bound), dice.randint(1, bound))
                for at in range(dice.choice((1, 2, 3, 7, 63)))
            ) + (ONE,)
            amount = dice.randint(0, dice.choice((3, 100, 10 ** 12)))
            told = parted(amount, shares)
            self.assertEqual(told, exact(amount, shares))
            self.assertEqual(sum(told), amount)


class WhatIsTold(unittest.TestCase):
    def test_a_tuple_of_as_many_whole_numbers(self):
        for many in (1, 2, 63, 64):
            for amount in (0, 1, 2, 65, 10 ** 12):
                told = parted(amount, (ONE,) * (many - 1) + ((1, 3),))
                self.assertIs(type(told), tuple)
                self.assertEqual(len(told), many)
                self.assertEqual({type(penny) for penny in told}, {int})
                self.assertEqual(sum(told), amount)

    def test_by_place_and_by_name(self):
        wanted = (4, 2, 1)
        shares = ((4, 1), (2, 1), (1, 1))
        self.assertEqual(parted(7, shares), wanted)
        self.assertEqual(parted(7, shares=shares), wanted)
        self.assertEqual(parted(amount=7, shares=shares), wanted)
        self.assertEqual(parted(shares=shares, amount=7), wanted)

    def test_told_the_same_each_time(self):
        shares = (ONE, (1, 3), HALF)
        self.assertEqual(parted(100, shares), parted(100, shares))
        self.assertEqual(shares, (ONE, (1, 3), HALF))

    def test_what_is_refused_is_not_changed(self):
        shares = [ONE, [1, 2]]
        with self.assertRaises(NoShares):
            parted(1, shares)
        with self.assertRaises(NoSum):
            parted(shares, shares)
        self.assertEqual(shares, [ONE, [1, 2]])


class WholeNumbersAndFractions(unittest.TestCase):
    def test_whole_numbers(self):
        for thing in (0, 1, -1, 10 ** 40):
            self.assertIs(is_whole(thing), True)
        for thing in (True, False, None, "1", b"1", (1,), [1], {}):
            self.assertIs(is_whole(thing), False)

    def test_fractions(self):
        for thing in ((0, 1), (1, 1), (-1, 2), (-3, 1), (7, 3), (10 ** 40, 10 ** 40 + 1)):
            self.assertIs(is_fraction(thing), True)
        for thing in NO_FRACTIONS:
            if thing not in ((-1, 2), (-1, 1)):
                self.assertIs(is_fraction(thing), False, thing)


if __name__ == "__main__":
    unittest.main()
