"""Point [19]: hours, cases, and the case of a story."""

import itertools
import random
import unittest

from tests.chance import any_clauses
from willdealt.cases import case_of, cases, hours
from willdealt.conds import comes
from willdealt.errors import TooMany
from willdealt.houses import House
from willdealt.stories import Story
from willdealt.whoms import takers
from willdealt.wills import Will
from willdealt.willtexts import read_will


def will(*lines):
    return read_will("\n".join(lines))


def house(names):
    return House(tuple((name, None) for name in names))


def if_days(*days):
    """A line whose condition has the days."""
    return "pay 1 to x if " + " or ".join(f"lives zed {day}" for day in days)


class Hours(unittest.TestCase):
    def test_without_a_wait(self):
        self.assertEqual(hours(Will()), (0,))
        self.assertEqual(hours(will("pay 1 to a if lives a and not childless b")), (0,))
        self.assertEqual(hours(will=will("ranks rest kinds sums names")), (0,))

    def test_with_waits(self):
        self.assertEqual(hours(will("wait 30")), (30,))
        self.assertEqual(hours(will("wait 30", "wait 0")), (0,))
        self.assertEqual(hours(will("wait 30", "pay 1 to a", "wait 7", "pay 1 to a")), (7,))
        self.assertEqual(hours(will("pay 1 to a", "wait 9999")), (9999,))

    def test_days_of_conditions(self):
        self.assertEqual(hours(will(if_days(5))), (0, 5))
        self.assertEqual(hours(will(if_days(5), if_days(-9999, 9999))), (-9999, 0, 5, 9999))
        self.assertEqual(hours(will("wait 30", if_days(5, 40))), (5, 30, 40))
        self.assertEqual(hours(will("give cup to a if lives a 1", "give all k to a if lives a 2",
                                    "pay 3 to a if lives a 3", "rest 9 to a if lives a 4")), (0, 1, 2, 3, 4))

    def test_days_at_any_depth(self):
        text = "pay 1 to x if not ( lives a 3 and ( lives b or not lives c -2 ) ) or childless d and lives e 8"
        self.assertEqual(hours(will(text)), (-2, 0, 3, 8))

    def test_days_alike(self):
        self.assertEqual(hours(will(if_days(5, 5, 5), if_days(5), "wait 5")), (5,))
        self.assertEqual(hours(will(if_days(0), if_days(-1, 0))), (-1, 0))

    def test_a_rising_tuple(self):
        told = hours(will(if_days(9, 3, -4), if_days(7, 3), "wait 6"))
        self.assertEqual(told, (-4, 3, 6, 7, 9))
        self.assertIs(type(told), tuple)


class Cases(unittest.TestCase):
    def texts(self, names, one):
        told = cases(house(names), one)
        self.assertIs(type(told), tuple)
        self.assertEqual({type(story) for story in told}, {Story})
        return [str(story) for story in told]

    def test_one_person(self):
        self.assertEqual(self.texts(["ann"], Will()), ["none", "ann 0"])
        self.assertEqual(self.texts(["ann"], will("wait 30", if_days(-5))), ["none", "ann -5", "ann 30"])

    def test_fewer_deaths_ahead_then_by_deaths(self):
        self.assertEqual(self.texts(["ben", "ann"], will(if_days(5))), [
            "none", "ann 0", "ann 5", "ben 0", "ben 5",
            "ann 0, ben 0", "ann 0, ben 5", "ann 5, ben 0", "ann 5, ben 5",
        ])
        self.assertEqual(self.texts(["cat", "ann", "ben"], Will()), [
            "none", "ann 0", "ben 0", "cat 0", "ann 0, ben 0", "ann 0, cat 0", "ben 0, cat 0", "ann 0, ben 0, cat 0",
        ])

    def test_days_below_nought_rise_too(self):
        self.assertEqual(self.texts(["a"], will(if_days(-5, -10, 3))), ["none", "a -10", "a -5", "a 0", "a 3"])

    def test_all_of_them(self):
        for names, days in (("dbca", (-3, 0, 4)), ("ab", tuple(range(0, 15))), ("a", tuple(range(0, 100)))):
            names = list(names)
            lines = [if_days(*days[at:at + 6]) for at in range(0, len(days), 6)][:16]
            one = will(*lines)
            told = cases(house(names), one)
            wanted = []
            for row in itertools.product((None, *hours(one)), repeat=len(names)):
                wanted.append(tuple((name, day) for name, day in zip(sorted(names), row) if day is not None))
            wanted.sort(key=lambda deaths: (len(deaths), deaths))
            self.assertEqual(told, tuple(Story(deaths) for deaths in wanted))

    def test_at_most_256(self):
        self.assertEqual(len(cases(house("abcdefgh"), Will())), 256)
        self.assertEqual(len(cases(house("abcd"), will(if_days(1, 2)))), 256)
        self.assertEqual(len(cases(house("ab"), will(*[if_days(*range(at, at + 6)) for at in (0, 6, 9)]))), 256)
        for names, one, many in (("abcdefgh", will(if_days(1)), 3 ** 8), ("abcde", will(if_days(1, 2)), 4 ** 5),
                                 ("abcdef", will(if_days(1)), 3 ** 6),
                                 ("ab", will(*[if_days(*range(at, at + 6)) for at in (0, 6, 10)]), 17 ** 2),
                                 ("abcdefgh", will(*[if_days(*range(at, at + 6)) for at in range(0, 96, 6)]), 97 ** 8)):
            with self.assertRaises(TooMany) as caught:
                cases(house(names), one)
            self.assertEqual(caught.exception.many, many)

    def test_many_hours_of_one_person(self):
        lines = [if_days(*range(at, at + 6)) for at in range(0, 90, 6)]
        one = will(*lines, if_days(90))
        self.assertEqual(len(cases(house("a"), one)), 92)

    def test_by_name(self):
        self.assertEqual(cases(will=Will(), house=house("a")), (Story(), Story((("a", 0),))))

    def test_the_will_may_name_strangers(self):
        self.assertEqual(len(cases(house("a"), will("give cup to zed if lives zed 4"))), 3)


class CaseOf(unittest.TestCase):
    def told(self, names, one, *deaths):
        told = case_of(house(names), one, Story(deaths))
        self.assertIs(type(told), Story)
        return str(told)

    def test_on_ahead_of_and_behind_the_hour(self):
        for day, case in ((-9999, "a 0"), (-1, "a 0"), (0, "a 0"), (1, "none"), (9999, "none")):
            self.assertEqual(self.told("a", Will(), ("a", day)), case)
        for day, case in ((29, "a 30"), (30, "a 30"), (31, "none")):
            self.assertEqual(self.told("a", will("wait 30"), ("a", day)), case)

    def test_several_hours(self):
        one = will(if_days(-5, 10), "wait 3")
        for day, case in ((-9, "a -5"), (-5, "a -5"), (-4, "a 3"), (0, "a 3"), (3, "a 3"), (4, "a 10"), (9, "a 10"),
                          (10, "a 10"), (11, "none")):
            self.assertEqual(self.told("a", one, ("a", day)), case)

    def test_those_who_live_on(self):
        self.assertEqual(self.told("ab", Will()), "none")
        self.assertEqual(self.told("ab", will("wait 9999")), "none")
        self.assertEqual(self.told("ab", Will(), ("b", -3)), "b 0")

    def test_several_people_in_any_order(self):
        one = will(if_days(5))
        self.assertEqual(self.told("cba", one, ("a", 9), ("b", -3), ("c", 2)), "b 0, c 5")

    def test_strangers_of_the_story(self):
        self.assertEqual(self.told("b", Will(), ("a", -1), ("b", -2), ("c", -3)), "b 0")

    def test_more_than_256_cases(self):
        one = will(if_days(1, 2, 3))
        deaths = tuple((name, 1) for name in "abcdefgh")
        self.assertEqual(self.told("abcdefgh", one, *deaths), ", ".join(f"{name} 1" for name in "abcdefgh"))

    def test_by_name(self):
        self.assertEqual(case_of(story=Story((("a", -2),)), will=Will(), house=house("a")), Story((("a", 0),)))

    def test_each_case_is_its_own(self):
        one = will(if_days(-4, 6), "wait 2")
        for story in cases(house("abc"), one):
            self.assertEqual(case_of(house("abc"), one, story), story)

    def test_outlives_the_same_hours_and_deals_alike(self):
        dice = random.Random(19)
        names = ("ann", "ben", "cat", "dan")
        kin = House((("ann", None), ("ben", "ann"), ("cat", "ann"), ("dan", "ben")))
        for turn in range(300):
            one = Will(any_clauses(dice, names, 3))
            deaths = sorted((name, dice.choice((-4, -1, 0, 1, 2, 5, 9999))) for name in names if dice.random() < 0.8)
            story = Story(tuple(deaths))
            case = case_of(kin, one, story)
            days = hours(one)
            for name in names:
                self.assertIn(case.died(name), (None, *days))
                for day in days:
                    self.assertIs(case.lives(name, day), story.lives(name, day))
            if (len(days) + 1) ** 4 <= 256:
                self.assertIn(case, cases(kin, one))
            wait = [0] + [clause[1] for clause in one.clauses() if clause[0] == "wait"]
            for clause in one.clauses():
                if len(clause) == 4:
                    for deed, what in ((takers, clause[2]), (comes, clause[3])):
                        self.assertEqual(deed(kin, what, case, wait[-1]), deed(kin, what, story, wait[-1]))


class NothingChanges(unittest.TestCase):
    def test_nothing_changes(self):
        one, kin, story = will(if_days(5), "wait 3"), house("ba"), Story((("a", 4),))
        hours(one), cases(kin, one), case_of(kin, one, story)
        self.assertEqual((one, kin, story), (will(if_days(5), "wait 3"), house("ba"), Story((("a", 4),))))
        self.assertEqual(cases(kin, one), cases(kin, one))


if __name__ == "__main__":
    unittest.main()
