"""Point [9]: conditions."""

import itertools
import random
import unittest

from tests.chance import any_cond
from tests.things import ANY_KIND, NO_NAMES, otherwise
from willdealt.conds import comes, is_cond
from willdealt.errors import NoCond, NoDay, NoPerson
from willdealt.houses import House
from willdealt.stories import Story

ANN = ("lives", "ann")
BEN = ("lives", "ben", 5)
CAT = ("childless", "cat")

SOME = (
    ANN, BEN, CAT, ("lives", "abcdefgh"), ("lives", "ann", -9999), ("lives", "ann", 9999), ("lives", "ann", 0),
    ("not", ANN), ("not", ("not", CAT)), ("and", ANN, BEN), ("or", CAT, ANN), ("and", ANN, ANN),
    ("and", ("or", ANN, BEN), ("not", ("and", CAT, BEN))), ("or",) + (ANN,) * 6, ("and",) + (BEN,) * 6,
)

HOUSE = House((("ann", None), ("ben", "ann"), ("cat", "ann"), ("dan", "ben"), ("eve", None)))


def within(cond, many):
    """A condition within MANY nots."""
    for turn in range(many):
        cond = ("not", cond)
    return cond


def truth(cond, house, days, wait):
    """What point [9] says, told apart from the program: DAYS is a dict, whoever isn't in it lives on."""
    outlives = lambda name, day: days.get(name, 10 ** 6) > day
    if cond is None:
        return True
    if cond[0] == "lives":
        return outlives(cond[1], (*cond, wait)[2])
    if cond[0] == "childless":
        return not [name for name in house.people() if house.parent(name) == cond[1] and outlives(name, wait)]
    parts = [truth(part, house, days, wait) for part in cond[1:]]
    return {"not": not parts[0], "and": min(parts), "or": max(parts)}[cond[0]]


class IsCond(unittest.TestCase):
    def yes(self, thing):
        self.assertIs(is_cond(thing), True, thing)

    def no(self, thing):
        self.assertIs(is_cond(thing), False, thing)

    def test_each_form(self):
        for cond in SOME:
            self.yes(cond)
        self.assertIs(is_cond(thing=ANN), True)

    def test_things_of_any_kind(self):
        for thing in (*ANY_KIND, 0, 1, "lives ann", list(ANN), ("one", "ann"), ("lives",), ("not",), ("and",)):
            self.no(thing)
            self.no(("not", thing))
            self.no(("and", ANN, thing))
            self.no(("or", thing, ANN))
            self.no(("lives", thing))
            self.no(("childless", thing))
            self.no((thing, "ann"))
            self.no((thing, ANN, BEN))

    def test_days_of_any_kind(self):
        for thing in ANY_KIND:
            self.no(("lives", "ann", thing))

    def test_one_place_put_otherwise(self):
        for cond in SOME:
            for other in otherwise(cond):
                self.no(other)

    def test_a_part_fewer_or_more(self):
        for cond in (ANN, CAT, ("not", ANN), ("and", ANN, BEN), ("or", ANN, BEN)):
            self.no(cond[:-1])
        self.no(ANN + (1, 1))
        self.no(ANN + (ANN,))
        self.no(CAT + (1,))
        self.no(("not", ANN, ANN))

    def test_names(self):
        for name in NO_NAMES:
            self.no(("lives", name))
            self.no(("lives", name, 1))
            self.no(("childless", name))
            self.no(("and", ANN, ("or", ANN, ("lives", name))))
        for word in ("lives", "childless"):
            self.yes((word, "abcdefgh"))
            self.no((word, "abcdefghi"))

    def test_days(self):
        for day in (-9999, 9999):
            self.yes(("lives", "ann", day))
        for day in (-10000, 10000):
            self.no(("lives", "ann", day))
            self.no(("not", ("lives", "ann", day)))

    def test_words(self):
        for word in ("Lives", "live", "xor", "one", "", "AND", "children"):
            self.no((word, "ann"))
            self.no((word, ANN))
            self.no((word, ANN, ANN))

    def test_two_to_six_terms(self):
        for word in ("and", "or"):
            self.no((word,))
            self.no((word, ANN))
            for many in range(2, 7):
                self.yes((word,) + (ANN,) * many)
            self.no((word,) + (ANN,) * 7)
            self.no(("not", (word,) + (ANN,) * 7))

    def test_six_within_one_another(self):
        for leaf in (ANN, BEN, CAT):
            self.yes(within(leaf, 5))
            self.no(within(leaf, 6))
            self.no(within(leaf, 7))
        for word in ("and", "or"):
            self.yes(within((word, ANN, ANN), 4))
            self.no(within((word, ANN, ANN), 5))
            self.yes((word, ANN, within(ANN, 4)))
            self.no((word, within(ANN, 5), ANN))
            self.no((word, ANN, within(ANN, 5)))

    def test_far_too_deep(self):
        self.no(within(ANN, 50000))

    def test_twelve_names(self):
        six = ("and",) + (ANN,) * 6
        self.yes(("or", six, six))
        self.no(("or", six, six, ANN))
        self.no(("or", six, ("and",) + (ANN,) * 5, ("or", ANN, CAT)))
        self.yes(("or", six, ("and",) + (ANN,) * 4, ("or", BEN, CAT)))
        self.no(("or", six, six, six, six, six, six))
        self.yes(("or",) + (("and", ANN, CAT),) * 6)
        self.no(("or",) + (("and", ANN, CAT),) * 5 + (("and", ANN, CAT, BEN),))

    def test_unlike_names_count_as_alike_ones(self):
        leaves = [("lives", name) for name in "abcdefghijklm"]
        self.yes(("and", ("or", *leaves[:6]), ("or", *leaves[6:12])))
        self.no(("and", ("or", *leaves[:6]), ("or", *leaves[6:12]), leaves[12]))


class Comes(unittest.TestCase):
    def told(self, cond, *deaths, wait=0):
        told = comes(HOUSE, cond, Story(deaths), wait)
        self.assertIs(type(told), bool)
        return told

    def test_none_always_comes(self):
        self.assertIs(self.told(None), True)
        self.assertIs(self.told(None, ("ann", -9999), wait=9999), True)

    def test_lives(self):
        self.assertTrue(self.told(ANN))
        self.assertTrue(self.told(ANN, ("ann", 1)))
        self.assertFalse(self.told(ANN, ("ann", 0)))
        self.assertFalse(self.told(ANN, ("ann", -1)))
        self.assertTrue(self.told(ANN, ("ben", -1)))

    def test_lives_by_wait(self):
        for wait in (-9999, -1, 0, 30, 9999):
            self.assertTrue(self.told(ANN, wait=wait))
            self.assertFalse(self.told(ANN, ("ann", wait), wait=wait))
        self.assertTrue(self.told(ANN, ("ann", 31), wait=30))
        self.assertFalse(self.told(ANN, ("ann", 29), wait=30))
        self.assertTrue(self.told(ANN, ("ann", -4), wait=-5))

    def test_lives_a_day_is_not_by_wait(self):
        for wait in (-9999, 0, 9999):
            self.assertTrue(self.told(BEN, ("ben", 6), wait=wait))
            self.assertFalse(self.told(BEN, ("ben", 5), wait=wait))
            self.assertTrue(self.told(("lives", "ben", 0), ("ben", 1), wait=wait))
            self.assertFalse(self.told(("lives", "ben", 0), ("ben", 0), wait=wait))
            self.assertTrue(self.told(("lives", "ben", -9), ("ben", -8), wait=wait))

    def test_childless(self):
        childless = ("childless", "ann")
        self.assertFalse(self.told(childless))
        self.assertFalse(self.told(childless, ("ben", 0)))
        self.assertTrue(self.told(childless, ("ben", 0), ("cat", -3)))
        self.assertFalse(self.told(childless, ("ben", 0), ("cat", 1)))
        self.assertTrue(self.told(childless, ("ben", 0), ("cat", 1), wait=1))
        self.assertFalse(self.told(childless, ("ben", 0), ("cat", 1), wait=-1))

    def test_childless_is_of_children_alone(self):
        self.assertTrue(self.told(("childless", "eve")))
        self.assertTrue(self.told(("childless", "dan"), ("dan", -1)))
        self.assertFalse(self.told(("childless", "ben"), ("ben", -1)))
        # dan, a grandchild, lives on.
        self.assertTrue(self.told(("childless", "ann"), ("ben", -1), ("cat", -1)))

    def test_not_and_or(self):
        dead = {"ann": ("ann", 0), "ben": ("ben", 0), "cat": ("cat", 0)}
        for lives in itertools.product((True, False), repeat=3):
            deaths = [dead[name] for name, on in zip(dead, lives) if not on]
            one, two, three = [("lives", name) for name in dead]
            self.assertIs(self.told(("not", one), *deaths), not lives[0])
            self.assertIs(self.told(("not", ("not", one)), *deaths), lives[0])
            self.assertIs(self.told(("and", one, two, three), *deaths), all(lives))
            self.assertIs(self.told(("or", one, two, three), *deaths), any(lives))
            told = self.told(("or", ("and", one, ("not", two)), ("not", ("or", two, three))), *deaths)
            self.assertIs(told, (lives[0] and not lives[1]) or not (lives[1] or lives[2]))

    def test_many_others(self):
        dice = random.Random(9)
        people = HOUSE.people()
        for turn in range(1500):
            cond = any_cond(dice, people)
            days = {name: dice.randint(-4, 4) for name in people if dice.random() < 0.7}
            wait = dice.randint(-4, 4)
            told = comes(HOUSE, cond, Story(tuple(sorted(days.items()))), wait)
            self.assertIs(told, truth(cond, HOUSE, days, wait), (cond, days, wait))

    def test_by_name_and_left_out(self):
        story = Story((("ann", 3),))
        self.assertIs(comes(house=HOUSE, cond=ANN, story=story), True)
        self.assertIs(comes(wait=3, story=story, cond=ANN, house=HOUSE), False)
        self.assertIs(comes(HOUSE, ANN, story, wait=2), True)
        told = [comes(HOUSE, ANN, Story((("ann", day),))) for day in (-1, 0, 1)]
        self.assertEqual(told, [False, False, True])

    def test_the_bounds_are_let(self):
        six = ("and",) + (ANN,) * 6
        self.assertTrue(self.told(("or", six, six)))
        self.assertFalse(self.told(within(ANN, 5)))


class Refusals(unittest.TestCase):
    def test_no_cond(self):
        for thing in (*ANY_KIND, ("lives", "ann", True), within(ANN, 6), ["lives", "ann"], ("not", None)):
            if thing is not None:
                with self.assertRaises(NoCond):
                    comes(HOUSE, thing, Story())

    def test_no_day(self):
        for wait in (*ANY_KIND, 10000, -10000, "0"):
            for cond in (None, ANN, BEN):
                with self.assertRaises(NoDay) as caught:
                    comes(HOUSE, cond, Story(), wait)
                self.assertIs(caught.exception.thing, wait)

    def test_no_person(self):
        for cond, name in (
            (("lives", "zed"), "zed"), (("lives", "zed", 3), "zed"), (("childless", "zed"), "zed"),
            (("not", ("lives", "zed")), "zed"), (("or", ANN, ("lives", "zed")), "zed"),
            (("and", ("not", ("lives", "xen")), ("lives", "zed")), "xen"),
            (("and", ANN, ("or", CAT, ("lives", "zed")), ("lives", "xen")), "zed"),
            (("and", ("or", ("not", ("childless", "yan")), ("lives", "zed")), ("lives", "xen")), "yan"),
        ):
            with self.assertRaises(NoPerson) as caught:
                comes(HOUSE, cond, Story((("ann", -1),)))
            self.assertEqual(caught.exception.name, name)

    def test_which_is_told_first(self):
        with self.assertRaises(NoCond):
            comes(HOUSE, ("lives", "zed", True), Story(), None)
        with self.assertRaises(NoCond):
            comes(HOUSE, ("and", ("lives", "zed"), None), Story(), 0)
        with self.assertRaises(NoDay):
            comes(HOUSE, ("lives", "zed"), Story(), True)

    def test_nothing_is_changed(self):
        cond = ["lives", ["ann"]]
        with self.assertRaises(NoCond):
            comes(HOUSE, cond, Story())
        self.assertEqual(cond, ["lives", ["ann"]])
        self.assertEqual([is_cond(cond), is_cond(cond)], [False, False])


if __name__ == "__main__":
    unittest.main()
