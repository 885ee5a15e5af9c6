"""Point [16]: what lacks in the purse, and how it falls on the ranks. Of [3]: each penny, and none more than its worth."""

import itertools
import random
import unittest

from tests.chance import RANKS, any_house, any_story, any_will
from willdealt.dealing import deal
from willdealt.houses import House
from willdealt.stories import Story
from willdealt.willtexts import read_will

PEOPLE = (("ann", None), ("ben", "ann"), ("cat", "ann"), ("dan", None))
# What each rank can bear: the rest 40, kinds 30, sums 20, names 17.
GOODS = (("cup", "gold", 10), ("bed", "wood", 40), ("ring", "gold", 20), ("pot", "tin", 7), ("pan", "tin", 10))
LINES = ("give pot to ann", "give pan to dan and ben", "give all gold to cat and ben", "pay 5 to ann", "pay 15 to dan")
BEARS = {"rest": 40, "kinds": 30, "sums": 20, "names": 17}


def told(debts, *more, purse=20, goods=GOODS, lines=LINES):
    return deal(House(PEOPLE, goods, purse, debts), read_will("\n".join([*lines, *more])), Story())


def borne(dealing):
    """What each rank bears of LINES, by the rows that are told."""
    less = {"rest": 40, "kinds": 0, "sums": 20, "names": 10}
    for word, number, taker, thing, gets, owes in dealing.rows():
        if word in ("give", "kind"):
            less["names" if word == "give" else "kinds"] += owes
        else:
            less[{"sold": "names", "pay": "sums", "rest": "rest", "crown": "rest"}[word]] -= gets
    return less


def wanted(lacking, ranks):
    """What each rank bears, and what of the debts stays unpaid."""
    bears = {}
    for rank in ranks:
        bears[rank] = min(lacking, BEARS[rank])
        lacking -= bears[rank]
    return bears, lacking


class Lacking(unittest.TestCase):
    def test_nothing_lacks(self):
        one = told(0)
        self.assertEqual(borne(one), {"rest": 0, "kinds": 0, "sums": 0, "names": 0})
        self.assertEqual((one.paid(), one.unpaid()), (0, 0))
        self.assertEqual(told(7, purse=27).rows(), one.rows())
        self.assertEqual((told(7, purse=27).paid(), told(7, purse=27).unpaid()), (7, 0))

    def test_what_is_more_is_the_rests(self):
        self.assertEqual(told(0, purse=25).net("crown"), 45)
        self.assertEqual(told(3, purse=25).net("crown"), 42)
        self.assertEqual(told(5, purse=25).net("crown"), 40)
        self.assertEqual(told(6, purse=25).net("crown"), 39)

    def test_each_order_of_ranks_at_each_edge(self):
        for ranks in itertools.permutations(RANKS):
            edges = list(itertools.accumulate([0] + [BEARS[rank] for rank in ranks]))
            for edge in edges:
                for lacking in (edge - 1, edge, edge + 1):
                    if lacking < 0:
                        continue
                    one = told(lacking, "ranks " + " ".join(ranks))
                    bears, unpaid = wanted(lacking, ranks)
                    self.assertEqual(borne(one), bears, (ranks, lacking))
                    self.assertEqual((one.paid(), one.unpaid()), (lacking - unpaid, unpaid))

    def test_all_amounts_without_a_ranks_clause(self):
        for lacking in range(0, 115):
            one = told(lacking)
            bears, unpaid = wanted(lacking, RANKS)
            self.assertEqual(borne(one), bears)
            self.assertEqual((one.paid(), one.unpaid()), (lacking - unpaid, unpaid))

    def test_the_last_ranks_count(self):
        first, last = "ranks names sums kinds rest", "ranks sums rest names kinds"
        self.assertEqual(told(15, first, last).rows(), told(15, last).rows())
        self.assertEqual(borne(told(15, first, last)), {"rest": 0, "kinds": 0, "sums": 15, "names": 0})
        self.assertEqual(borne(told(15, last, first)), {"rest": 0, "kinds": 0, "sums": 0, "names": 15})

    def test_unpaid_where_there_is_nothing(self):
        one = deal(House(PEOPLE, (), 3, 10), read_will(""), Story())
        self.assertEqual((one.paid(), one.unpaid(), one.net("crown")), (3, 7, 0))
        one = deal(House(PEOPLE, (), 0, 10 ** 9), read_will("pay 1000000000 to ann"), Story())
        self.assertEqual((one.paid(), one.unpaid(), one.net("ann")), (0, 10 ** 9, 0))

    def test_pays_bear_one_another_without_debts(self):
        one = told(0, purse=0)
        self.assertEqual(borne(one), {"rest": 20, "kinds": 0, "sums": 0, "names": 0})
        one = deal(House(PEOPLE, (), 10), read_will("pay 20 to ann\npay 10 to dan"), Story())
        self.assertEqual((one.net("ann"), one.net("dan"), one.unpaid()), (6, 4, 0))


class WithinARank(unittest.TestCase):
    def rows(self, debts, *more, **others):
        return told(debts, *more, **others).rows()

    def test_kinds_by_worths(self):
        first = "ranks kinds rest sums names"
        for lacking, falls in ((1, (1, 0)), (2, (1, 1)), (3, (1, 2)), (4, (2, 2)), (29, (10, 19)), (30, (10, 20))):
            rows = self.rows(lacking, first)
            self.assertEqual([row for row in rows if row[0] == "kind"], [
                ("kind", 2, "cat", "cup", 10, falls[0]), ("kind", 2, "ben", "ring", 20, falls[1])])

    def test_names_by_worths_as_the_house_has_them(self):
        first = "ranks names rest sums kinds"
        for lacking, falls in ((1, (1, 0)), (2, (1, 1)), (5, (3, 2)), (16, (7, 9)), (17, (7, 10))):
            rows = self.rows(lacking, first)
            self.assertIn(("give", 0, "ann", "pot", 7, falls[0]), rows)
            self.assertEqual(sum(row[4] for row in rows if row[0] == "sold"), 10 - falls[1])

    def test_the_house_tells_the_order_not_the_clauses(self):
        lines = ("give ring to ann", "give cup to dan", "ranks names rest sums kinds")
        goods = (("cup", "gold", 10), ("ring", "gold", 10))
        self.assertEqual(self.rows(1, goods=goods, lines=lines, purse=0)[:2], (
            ("give", 1, "dan", "cup", 10, 1), ("give", 0, "ann", "ring", 10, 0)))

    def test_sold_brings_so_much_less(self):
        rows = self.rows(5, "ranks names rest sums kinds")
        self.assertEqual([row for row in rows if row[0] == "sold"], [
            ("sold", 1, "dan", "pan", 4, 0), ("sold", 1, "ben", "pan", 4, 0)])
        rows = self.rows(4, "ranks names rest sums kinds")
        self.assertEqual([row for row in rows if row[0] == "sold"], [
            ("sold", 1, "dan", "pan", 4, 0), ("sold", 1, "ben", "pan", 4, 0)])
        rows = self.rows(3, "ranks names rest sums kinds")
        self.assertEqual([row[4] for row in rows if row[0] == "sold"], [5, 4])

    def test_sums_by_number(self):
        first = "ranks sums rest kinds names"
        for lacking, left in ((1, (4, 15)), (2, (4, 14)), (4, (4, 12)), (5, (3, 12)), (19, (0, 1)), (20, (0, 0))):
            rows = self.rows(lacking, first)
            self.assertEqual([row for row in rows if row[0] == "pay"], [
                ("pay", 3, "ann", None, left[0], 0), ("pay", 4, "dan", None, left[1], 0)])

    def test_a_pay_to_several_pays_so_much_less_by_shares(self):
        one = deal(House(PEOPLE, (), 5), read_will("pay 9 to dan and children of ann"), Story())
        self.assertEqual(one.rows()[:3], (
            ("pay", 0, "dan", None, 3, 0), ("pay", 0, "ben", None, 1, 0), ("pay", 0, "cat", None, 1, 0)))

    def test_the_rest_by_weights_and_shares(self):
        rows = self.rows(3, "rest 2 to ann", "rest 1 to ben and cat")
        self.assertEqual([row for row in rows if row[0] == "rest"], [
            ("rest", 5, "ann", None, 25, 0), ("rest", 6, "ben", None, 6, 0), ("rest", 6, "cat", None, 6, 0)])

    def test_what_is_worth_nought_bears_nothing(self):
        goods = (("cup", "gold", 0), ("ring", "gold", 3), ("pot", "tin", 0), ("pan", "tin", 0), ("bed", "wood", 0))
        for ranks in itertools.permutations(RANKS):
            one = told(2, "ranks " + " ".join(ranks), goods=goods, purse=20)
            owes = {row[3]: row[5] for row in one.rows() if row[3] is not None}
            first = ranks.index("kinds") < ranks.index("sums")
            self.assertEqual(owes, {"cup": 0, "ring": 2 if first else 0, "pot": 0, "pan": 0})
            self.assertEqual(one.unpaid(), 0)

    def test_all_things_worth_nought(self):
        goods = tuple((name, kind, 0) for name, kind, worth in GOODS)
        one = told(50, goods=goods, lines=LINES[:3] + ("pay 0 to ann",), purse=20)
        self.assertEqual((one.paid(), one.unpaid()), (20, 30))
        self.assertTrue(all(row[4:] == (0, 0) for row in one.rows()))

    def test_things_not_given_bear_as_the_rest(self):
        one = told(10, "ranks kinds names sums rest", lines=("give cup to ann if not lives ann",), purse=0)
        self.assertEqual((one.net("crown"), one.rows()), (77, (("crown", None, "crown", None, 77, 0),)))


class Drawn(unittest.TestCase):
    def test_each_thing_and_each_penny(self):
        dice = random.Random(16)
        for turn in range(1500):
            house = any_house(dice)
            will, story = any_will(dice, house), any_story(dice, house)
            one = deal(house, will, story)
            names = (*house.people(), "crown")
            worths = sum(house.worth(thing) for thing in house.goods())
            self.assertEqual(sum(one.net(name) for name in names) + one.paid(), house.purse + worths)
            self.assertEqual(one.paid() + one.unpaid(), house.debts)
            self.assertTrue(0 <= one.paid() <= house.debts)
            held = [thing for name in names for thing in one.holds(name)]
            sold = {row[3] for row in one.rows() if row[0] == "sold"}
            self.assertEqual(len(held), len(set(held)))
            self.assertFalse(set(held) & sold)
            for word, number, taker, thing, gets, owes in one.rows():
                self.assertTrue(0 <= owes <= gets)
            if one.unpaid() > 0:
                self.assertEqual(one.each(lambda name, net: net), [0] * len(one))


if __name__ == "__main__":
    unittest.main()
