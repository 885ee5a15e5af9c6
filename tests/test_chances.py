"""Point [20]: which clauses can do something, and what each might have. Of [3]: that this holds in any story."""

import itertools
import random
import unittest

from tests.chance import any_house, any_story, any_will
from willdealt.cases import cases, hours
from willdealt.chances import doing, might
from willdealt.dealing import deal
from willdealt.errors import NoPerson, NoThing, TooMany
from willdealt.houses import House
from willdealt.stories import Story
from willdealt.willtexts import read_will

PEOPLE = (("dan", None), ("ann", None), ("ben", "ann"), ("cat", "ann"))
HOUSE = House(PEOPLE, (("cup", "gold", 30), ("bed", "wood", 20), ("ring", "gold", 50)), 100, 40)
EIGHT = House(tuple((name, None) for name in "abcdefgh"))


def will(*lines):
    return read_will("\n".join(lines))


def doing_texts(*lines):
    """What doing tells, stories as texts."""
    return tuple((number, None if story is None else str(story)) for number, story in doing(HOUSE, will(*lines)))


class Doing(unittest.TestCase):
    def test_at_once(self):
        self.assertEqual(doing_texts("give cup to ann", "give all gold to ann", "pay 0 to ann", "rest 1 to ann"),
                         ((0, "none"), (1, "none"), (2, "none"), (3, "none")))
        self.assertEqual(doing_texts(), ())

    def test_gifts_alone(self):
        self.assertEqual(doing_texts("wait 3", "pay 1 to ann", "ranks rest kinds sums names", "wait 4", "pay 2 to ann"),
                         ((1, "none"), (4, "none")))

    def test_never(self):
        self.assertEqual(doing_texts("give all lead to ann"), ((0, None),))
        self.assertEqual(doing_texts("pay 1 to ann if lives ben and not lives ben"), ((0, None),))
        self.assertEqual(doing_texts("pay 1 to children of dan"), ((0, None),))
        self.assertEqual(doing_texts("pay 1 to ann if not lives ann"), ((0, None),))
        self.assertEqual(doing_texts("give cup to ann", "give cup to ann"), ((0, None), (1, "none")))
        self.assertEqual(doing_texts("give cup to ann if lives ann 5", "give cup to ann", "wait 2"), ((0, None), (1, "none")))
        self.assertEqual(doing_texts("give all wood to ann", "give bed to ann"), ((0, None), (1, "none")))

    def test_one_death(self):
        self.assertEqual(doing_texts("pay 1 to ann if not lives ben"), ((0, "ben 0"),))
        self.assertEqual(doing_texts("give cup to ann", "give cup to ben"), ((0, "ben 0"), (1, "none")))
        self.assertEqual(doing_texts("wait 9", "give cup to ann", "give cup to ben"), ((1, "ben 9"), (2, "none")))
        self.assertEqual(doing_texts("pay 1 to ann if lives ben and not lives ben 7"), ((0, "ben 7"),))
        self.assertEqual(doing_texts("give all wood to ann", "give bed to cat"), ((0, "cat 0"), (1, "none")))

    def test_more_deaths(self):
        self.assertEqual(doing_texts("pay 1 to dan if childless ann and not lives ann"), ((0, "ann 0, ben 0, cat 0"),))
        self.assertEqual(
            doing_texts("give cup to ann", "give cup to ben", "give cup to cat", "give cup to dan"),
            ((0, "ben 0, cat 0, dan 0"), (1, "cat 0, dan 0"), (2, "dan 0"), (3, "none")))
        self.assertEqual(doing_texts("rest 1 to dan if childless ann or not lives ben"), ((0, "ben 0"),))

    def test_any_one_of_the_fewest(self):
        number, story = doing(HOUSE, will("pay 1 to dan if not lives ann or not lives ben"))[0]
        self.assertIn(str(story), ("ann 0", "ben 0"))

    def test_kinds_of_answers(self):
        told = doing(will=will("pay 1 to ann"), house=HOUSE)
        self.assertEqual((type(told), type(told[0]), type(told[0][1])), (tuple, tuple, Story))


class Might(unittest.TestCase):
    def test_as_told_and_the_crown(self):
        self.assertEqual([row[0] for row in might(HOUSE, will())], ["dan", "ann", "ben", "cat", "crown"])

    def test_without_clauses(self):
        told = might(HOUSE, will())
        self.assertEqual([row[1::2] for row in told], [(0, 0)] * 4 + [(160, 160)])
        for name, least, story, most, other in told:
            self.assertIn(story, cases(HOUSE, will()))
            self.assertIn(other, cases(HOUSE, will()))

    def test_least_and_most(self):
        told = might(HOUSE, will("give cup to ann else ben", "rest 1 to dan", "pay 10 to cat"))
        self.assertEqual([(row[0], *row[1::2]) for row in told], [
            ("dan", 0, 160), ("ann", 0, 30), ("ben", 0, 30), ("cat", 0, 10), ("crown", 0, 160)])
        by_name = {row[0]: row for row in told}
        self.assertFalse(by_name["dan"][2].lives("dan"))
        self.assertEqual(str(by_name["dan"][4]), "ann 0, ben 0, cat 0")
        self.assertFalse(by_name["ben"][4].lives("ann"))
        self.assertTrue(by_name["ben"][4].lives("ben"))
        self.assertEqual(str(by_name["crown"][4]), "ann 0, ben 0, cat 0, dan 0")

    def test_kinds_of_answers(self):
        told = might(will=will("pay 1 to ann", "wait 3"), house=HOUSE)
        self.assertEqual((type(told), type(told[0]), type(told[0][2]), type(told[0][4])), (tuple, tuple, Story, Story))


class Refused(unittest.TestCase):
    def refused(self, refusal, house, *lines):
        for deed in (doing, might):
            with self.assertRaises(refusal) as caught:
                deed(house, will(*lines))
            self.assertIs(type(caught.exception), refusal)
        return caught.exception

    def test_strange_names(self):
        self.assertEqual(self.refused(NoThing, HOUSE, "give pot to zed").name, "pot")
        self.assertEqual(self.refused(NoPerson, HOUSE, "pay 1 to zed").name, "zed")
        self.assertEqual(self.refused(NoPerson, HOUSE, "pay 1 to ann if lives zed", "give pot to ann").name, "zed")

    def test_too_many(self):
        self.assertEqual(len(might(EIGHT, will("rest 1 to a", "wait 5"))), 9)
        self.assertEqual(self.refused(TooMany, EIGHT, "rest 1 to a if lives b 5").many, 3 ** 8)
        self.assertEqual(self.refused(TooMany, HOUSE, "rest 1 to ann if lives ben 5 or lives ben 6 or lives ben 7").many, 625)

    def test_strange_names_ahead_of_too_many(self):
        self.assertEqual(self.refused(NoPerson, EIGHT, "rest 1 to a if lives b 5", "rest 1 to zed").name, "zed")
        self.assertEqual(self.refused(NoThing, EIGHT, "rest 1 to a if lives b 5", "give cup to b").name, "cup")


def all_stories(house, days):
    """All stories in which each person lives on or dies on one of the days."""
    names = sorted(house.people())
    for row in itertools.product((None, *days), repeat=len(names)):
        yield Story(tuple((name, day) for name, day in zip(names, row) if day is not None))


class InAnyStory(unittest.TestCase):
    def check(self, house, one, stories):
        """Hold doing and might against the dealings of stories."""
        dealt = [(story, deal(house, one, story)) for story in stories]
        for number, story in doing(house, one):
            doers = [len(other) for other, dealing in dealt if number not in dict(dealing.fallen())]
            if story is None:
                self.assertEqual(doers, [])
            else:
                self.assertNotIn(number, dict(deal(house, one, story).fallen()))
                self.assertTrue(all(many >= len(story) for many in doers))
        for name, least, story, most, other in might(house, one):
            nets = [dealing.net(name) for each, dealing in dealt]
            self.assertTrue(all(least <= net <= most for net in nets))
            self.assertEqual((deal(house, one, story).net(name), deal(house, one, other).net(name)), (least, most))
            self.assertIn(story, cases(house, one))
            self.assertIn(other, cases(house, one))
        return dealt

    def test_all_stories_of_small_houses(self):
        dice = random.Random(20)
        for turn in range(40):
            house = any_house(dice, 3, 4)
            one = any_will(dice, house, 6, (-1, 1))
            dealt = self.check(house, one, all_stories(house, (-2, -1, 0, 1, 2, 3)))
            for number, story in doing(house, one):
                doers = [len(each) for each, dealing in dealt if number not in dict(dealing.fallen())]
                self.assertEqual(None if story is None else len(story), min(doers, default=None))
            for name, least, story, most, other in might(house, one):
                nets = [dealing.net(name) for each, dealing in dealt]
                self.assertEqual((least, most), (min(nets), max(nets)))

    def test_drawn_stories_of_greater_houses(self):
        dice = random.Random(201)
        for turn in range(25):
            house = any_house(dice, 5, 8)
            one = any_will(dice, house, 12, (0, 2))
            if (len(hours(one)) + 1) ** len(house) <= 256:
                self.check(house, one, [any_story(dice, house) for story in range(40)])

    def test_asked_again(self):
        one = will("give cup to ann else ben", "rest 1 to dan", "wait 3")
        self.assertEqual(might(HOUSE, one), might(HOUSE, one))
        self.assertEqual(doing(HOUSE, one), doing(HOUSE, one))
        self.assertEqual(one, will("give cup to ann else ben", "rest 1 to dan", "wait 3"))


if __name__ == "__main__":
    unittest.main()
