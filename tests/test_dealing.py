"""Points [14], [15] and [16]: which clauses go, and what goes by them. (What lacks: test_burdens.py.)"""

import random
import unittest

from tests.chance import any_house, any_story, any_will
from tests.reckoned import reckoned
from willdealt.dealing import deal
from willdealt.dealings import Dealing
from willdealt.errors import NoPerson, NoThing
from willdealt.houses import House
from willdealt.stories import Story
from willdealt.storytexts import read_story
from willdealt.wills import Will
from willdealt.willtexts import read_will

PEOPLE = (("ann", None), ("ben", "ann"), ("cat", "ann"), ("dan", None))
GOODS = (("cup", "gold", 30), ("bed", "wood", 20), ("ring", "gold", 50), ("coin", "gold", 7))


def house(purse=0, debts=0):
    return House(PEOPLE, GOODS, purse, debts)


def will(*lines):
    return read_will("\n".join(lines))


def rows(lines, story="none", one=None):
    return deal(house() if one is None else one, will(*lines), read_story(story)).rows()


class StrangeNames(unittest.TestCase):
    def refused(self, refusal, name, *lines):
        for story in (Story(), read_story("ann -3, ben -3, cat -3, dan -3")):
            with self.assertRaises(refusal) as caught:
                deal(house(), will(*lines), story)
            self.assertEqual(caught.exception.name, name)

    def test_each_by_itself(self):
        self.refused(NoThing, "pot", "give pot to ann")
        self.refused(NoPerson, "zed", "give cup to zed")
        self.refused(NoPerson, "zed", "give cup to ann if lives zed")
        for head in ("give all gold", "pay 5", "rest 5", "pay 0", "give all lead"):
            self.refused(NoPerson, "zed", f"{head} to zed")
            self.refused(NoPerson, "zed", f"{head} to ann if childless zed")

    def test_parts_and_conditions(self):
        for whom in ("children of zed", "stock of zed", "ann and zed", "ann else zed", "ann else ben and children of zed"):
            self.refused(NoPerson, "zed", f"pay 5 to {whom}")
        for cond in ("lives zed 5", "childless zed", "not lives zed", "lives ann or ( lives ben and not lives zed )"):
            self.refused(NoPerson, "zed", f"pay 5 to ann if {cond}")

    def test_thing_ahead_of_whom_ahead_of_cond(self):
        self.refused(NoThing, "pot", "give pot to zed")
        self.refused(NoThing, "pot", "give pot to ann if lives zed")
        self.refused(NoThing, "pot", "give pot to zed if lives yak")
        self.refused(NoPerson, "zed", "give cup to zed if lives yak")
        self.refused(NoPerson, "yak", "pay 5 to yak if lives zed")

    def test_from_the_left(self):
        self.refused(NoPerson, "zed", "pay 5 to ann and zed else yak")
        self.refused(NoPerson, "yak", "pay 5 to yak and zed")
        self.refused(NoPerson, "zed", "pay 5 to ann if lives ben and ( childless zed or lives yak )")
        self.refused(NoPerson, "yak", "pay 5 to ann if childless yak or lives zed")

    def test_the_first_clause(self):
        self.refused(NoPerson, "zed", "pay 5 to ann if lives zed", "give pot to yak")
        self.refused(NoThing, "pot", "pay 5 to ann", "wait 3", "ranks rest kinds sums names", "give pot to yak",
                     "pay 5 to zed")
        self.refused(NoPerson, "yak", "pay 5 to ann", "rest 5 to yak", "give pot to ann")

    def test_names_of_the_other_sort(self):
        self.refused(NoThing, "ann", "give ann to ann")
        self.refused(NoThing, "gold", "give gold to ann")
        self.refused(NoPerson, "cup", "give cup to cup")

    def test_kinds_are_not_looked_for(self):
        self.assertEqual(deal(house(), will("give all lead to ann"), Story()).fallen(), ((0, "none"),))
        self.assertEqual(deal(house(), will("give all cup to ann"), Story()).fallen(), ((0, "none"),))

    def test_strangers_of_the_story(self):
        self.assertEqual(rows(["give cup to ann"], "zed -3"), rows(["give cup to ann"]))


class Goes(unittest.TestCase):
    def test_by_the_condition(self):
        lines = ["pay 5 to dan if lives ann and childless ben"]
        self.assertEqual(len(rows(lines)), 2)
        self.assertEqual(rows(lines, "ann 0"), (("crown", None, "crown", None, 107, 0),))

    def test_by_takers(self):
        self.assertEqual([row[2] for row in rows(["pay 0 to children of ann"])], ["ben", "cat", "crown"])
        self.assertEqual([row[2] for row in rows(["pay 0 to children of ann"], "ben 0")], ["cat", "crown"])
        self.assertEqual([row[2] for row in rows(["pay 0 to children of ann"], "ben 0, cat -1")], ["crown"])

    def test_by_the_last_wait(self):
        pay = "pay 0 to ann"
        for lines, day in (([pay], 0), ([pay, "wait 30"], 30), (["wait 30", pay], 30),
                           (["wait 30", pay, "wait 7"], 7), (["wait 30", pay, "wait 0"], 0)):
            self.assertEqual(rows(lines, f"ann {day}")[0][0], "crown")
            self.assertEqual(rows(lines, f"ann {day + 1}")[0][:3], ("pay", lines.index(pay), "ann"))

    def test_the_wait_counts_in_conditions(self):
        lines = ["wait 9", "pay 0 to dan if lives ann", "pay 0 to dan if childless ann", "pay 0 to dan if lives ann 3"]
        self.assertEqual([row[1] for row in rows(lines, "ann 9, ben 9, cat 9")], [2, 3, None])
        self.assertEqual([row[1] for row in rows(lines, "ann 10, ben 10, cat 9")], [1, 3, None])
        self.assertEqual([row[1] for row in rows(lines, "ann 3, ben 3, cat 9")], [2, None])


class Gives(unittest.TestCase):
    def test_to_one_taker(self):
        self.assertEqual(rows(["give cup to ann", "rest 1 to dan"]), (
            ("give", 0, "ann", "cup", 30, 0), ("rest", 1, "dan", None, 77, 0)))

    def test_the_last_that_goes(self):
        lines = ["give cup to ann", "give cup to ben", "give cup to cat", "rest 1 to dan"]
        self.assertEqual(rows(lines)[0], ("give", 2, "cat", "cup", 30, 0))
        self.assertEqual(rows(lines, "cat 0")[0], ("give", 1, "ben", "cup", 30, 0))
        self.assertEqual(rows(lines, "ben 0, cat 0")[0], ("give", 0, "ann", "cup", 30, 0))
        self.assertEqual(rows(lines, "ann 0, ben 0, cat 0"), (("rest", 3, "dan", None, 107, 0),))

    def test_an_earlier_one_where_the_last_does_not_come(self):
        lines = ["give cup to ann", "give cup to ben if not lives dan"]
        self.assertEqual(rows(lines)[0], ("give", 0, "ann", "cup", 30, 0))
        self.assertEqual(rows(lines, "dan 0")[0], ("give", 1, "ben", "cup", 30, 0))

    def test_to_several_is_sold(self):
        self.assertEqual(rows(["give cup to ann and dan"])[:2], (
            ("sold", 0, "ann", "cup", 15, 0), ("sold", 0, "dan", "cup", 15, 0)))
        self.assertEqual(rows(["give coin to dan and children of ann"])[:3], (
            ("sold", 0, "dan", "coin", 4, 0), ("sold", 0, "ben", "coin", 2, 0), ("sold", 0, "cat", "coin", 1, 0)))
        self.assertEqual(rows(["give coin to dan and ( stock of ann ) and dan"])[:2], (
            ("sold", 0, "dan", "coin", 5, 0), ("sold", 0, "ann", "coin", 2, 0)))

    def test_to_one_who_is_told_twice(self):
        self.assertEqual(rows(["give cup to ann and ann"])[0], ("give", 0, "ann", "cup", 30, 0))

    def test_several_told_of_whom_one_stands(self):
        self.assertEqual(rows(["give cup to ann and dan"], "ann 0")[0], ("give", 0, "dan", "cup", 30, 0))


class Kinds(unittest.TestCase):
    def test_all_of_a_kind_to_one(self):
        self.assertEqual(rows(["give all gold to ann"])[:3], (
            ("kind", 0, "ann", "cup", 30, 0), ("kind", 0, "ann", "ring", 50, 0), ("kind", 0, "ann", "coin", 7, 0)))

    def test_by_turns(self):
        self.assertEqual([row[2:4] for row in rows(["give all gold to cat and ben"])[:3]], [
            ("cat", "cup"), ("ben", "ring"), ("cat", "coin")])

    def test_by_turns_whatever_the_shares(self):
        self.assertEqual([row[2:5] for row in rows(["give all gold to dan and dan and children of ann"])[:3]], [
            ("dan", "cup", 30), ("ben", "ring", 50), ("cat", "coin", 7)])

    def test_more_takers_than_things(self):
        self.assertEqual([row[2:4] for row in rows(["give all wood to cat and ben"])[:1]], [("cat", "bed")])
        self.assertEqual(len(rows(["give all wood to cat and ben"])), 2)

    def test_behind_gives(self):
        for lines in (["give cup to dan", "give all gold to cat and ben"],
                      ["give all gold to cat and ben", "give cup to dan"]):
            told = rows(lines)[:3]
            self.assertEqual([row[2:4] for row in told], [("dan", "cup"), ("cat", "ring"), ("ben", "coin")])
            self.assertEqual([row[0] for row in told], ["give", "kind", "kind"])

    def test_a_give_that_does_not_go(self):
        lines = ["give all gold to cat and ben", "give cup to dan"]
        self.assertEqual([row[2:4] for row in rows(lines, "dan 0")[:3]], [
            ("cat", "cup"), ("ben", "ring"), ("cat", "coin")])

    def test_the_last_that_goes(self):
        lines = ["give all gold to ann", "give all gold to ben", "give all wood to cat"]
        self.assertEqual([row[1:4] for row in rows(lines)[:4]], [
            (1, "ben", "cup"), (2, "cat", "bed"), (1, "ben", "ring"), (1, "ben", "coin")])
        self.assertEqual([row[1:4] for row in rows(lines, "ben 0")[:4]], [
            (0, "ann", "cup"), (2, "cat", "bed"), (0, "ann", "ring"), (0, "ann", "coin")])

    def test_a_give_is_ahead_of_a_later_kind(self):
        self.assertEqual(rows(["give ring to ann", "give all gold to ben"])[1], ("give", 0, "ann", "ring", 50, 0))

    def test_things_named_as_kinds(self):
        one = House(PEOPLE, (("gold", "wood", 3), ("wood", "gold", 5)))
        self.assertEqual(rows(["give all gold to ann", "give gold to ben"], one=one)[:2], (
            ("give", 1, "ben", "gold", 3, 0), ("kind", 0, "ann", "wood", 5, 0)))


class Pays(unittest.TestCase):
    def test_of_the_purse(self):
        self.assertEqual(rows(["pay 40 to ann"], one=House(PEOPLE, (), 100)), (
            ("pay", 0, "ann", None, 40, 0), ("crown", None, "crown", None, 60, 0)))

    def test_to_several(self):
        self.assertEqual(rows(["pay 7 to dan and children of ann"], one=House(PEOPLE, (), 7)), (
            ("pay", 0, "dan", None, 4, 0), ("pay", 0, "ben", None, 2, 0), ("pay", 0, "cat", None, 1, 0),
            ("crown", None, "crown", None, 0, 0)))

    def test_of_nought(self):
        self.assertEqual(rows(["pay 0 to dan and ann"], one=House(PEOPLE)), (
            ("pay", 0, "dan", None, 0, 0), ("pay", 0, "ann", None, 0, 0), ("crown", None, "crown", None, 0, 0)))

    def test_all_that_go_by_number(self):
        lines = ["rest 1 to dan", "pay 5 to ben", "pay 6 to cat if not lives ann", "pay 7 to cat", "pay 8 to ben"]
        self.assertEqual(rows(lines, one=House(PEOPLE, (), 100)), (
            ("pay", 1, "ben", None, 5, 0), ("pay", 3, "cat", None, 7, 0), ("pay", 4, "ben", None, 8, 0),
            ("rest", 0, "dan", None, 80, 0)))


class Rests(unittest.TestCase):
    def test_what_is_left_is_sold_into_it(self):
        self.assertEqual(rows(["give all gold to ann", "rest 1 to dan"], one=house(11, 4))[-1],
                         ("rest", 1, "dan", None, 27, 0))

    def test_several_by_weights_then_by_shares(self):
        lines = ["rest 1 to dan", "rest 2 to children of ann", "rest 4 to ann"]
        self.assertEqual(rows(lines, one=House(PEOPLE, (), 101)), (
            ("rest", 0, "dan", None, 15, 0), ("rest", 1, "ben", None, 15, 0), ("rest", 1, "cat", None, 14, 0),
            ("rest", 2, "ann", None, 57, 0)))

    def test_pennies_between_rests_go_by_number(self):
        lines = ["rest 1 to dan", "rest 1 to ann", "rest 1 to ben"]
        self.assertEqual([row[4] for row in rows(lines, one=House(PEOPLE, (), 100))], [34, 33, 33])
        self.assertEqual([row[4] for row in rows(lines, one=House(PEOPLE, (), 101))], [34, 34, 33])

    def test_those_that_go_alone(self):
        lines = ["rest 99 to dan", "rest 1 to ann if not lives ben", "rest 1 to cat"]
        self.assertEqual(rows(lines, "dan 0", House(PEOPLE, (), 9)), (("rest", 2, "cat", None, 9, 0),))
        self.assertEqual([row[:5] for row in rows(lines, "ben 0, dan 0", House(PEOPLE, (), 9))], [
            ("rest", 1, "ann", None, 5), ("rest", 2, "cat", None, 4)])

    def test_the_crown_where_none_goes(self):
        self.assertEqual(rows([]), (("crown", None, "crown", None, 107, 0),))
        self.assertEqual(rows(["rest 1 to dan"], "dan -1"), (("crown", None, "crown", None, 107, 0),))
        self.assertEqual(rows([], one=House(PEOPLE)), (("crown", None, "crown", None, 0, 0),))

    def test_rests_of_nought(self):
        self.assertEqual(rows(["rest 3 to ann and dan"], one=House(PEOPLE)), (
            ("rest", 0, "ann", None, 0, 0), ("rest", 0, "dan", None, 0, 0)))


class Drawn(unittest.TestCase):
    def test_as_reckoned_once_more(self):
        dice = random.Random(14)
        for turn in range(1500):
            one = any_house(dice)
            its_will, story = any_will(dice, one), any_story(dice, one)
            told, wanted = deal(one, its_will, story), reckoned(one, its_will, story)
            self.assertEqual(told.rows(), tuple(wanted.rows), (str(one), str(its_will), str(story)))
            self.assertEqual((told.paid(), told.unpaid()), (wanted.paid, wanted.unpaid))
            self.assertEqual(told.fallen(), tuple(wanted.fallen))

    def test_the_greatest_numbers(self):
        most = 10 ** 9
        one = House(tuple((name, None) for name in "abcdefgh"), tuple((name, "k", most) for name in "abcdefgh"), most, most)
        everybody = " and ".join("abcdef")
        for lines in ([f"pay {most} to {everybody}"] * 16, [f"rest 99 to {everybody}"] * 16,
                      [f"give {name} to {everybody}" for name in "abcdefgh"]):
            its_will = will(*lines)
            told = deal(one, its_will, Story())
            self.assertEqual(told.rows(), tuple(reckoned(one, its_will, Story()).rows))
            self.assertEqual(sum(told.each(lambda name, net: net)) + told.paid(), 9 * most)


class Asked(unittest.TestCase):
    def test_by_name_and_kind_of_answer(self):
        told = deal(story=Story(), will=will("give cup to ann"), house=house())
        self.assertIs(type(told), Dealing)
        self.assertEqual(told, deal(house(), will("give cup to ann"), Story()))

    def test_nothing_changes(self):
        one, its_will, story = house(5, 90), will("give cup to ann and dan", "pay 3 to ben"), read_story("ben 3")
        first = deal(one, its_will, story)
        with self.assertRaises(NoThing):
            deal(one, Will((("give", "pot", ((("one", "ann"),),), None),)), story)
        self.assertEqual((one, str(its_will), str(story)), (
            house(5, 90), "give cup to ann and dan\npay 3 to ben", "ben 3"))
        self.assertEqual(deal(one, its_will, story).rows(), first.rows())


if __name__ == "__main__":
    unittest.main()
