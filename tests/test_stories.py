"""Point [8]: stories."""

import unittest

from tests.things import ANY_KIND, NO_NAMES, otherwise
from willdealt.errors import NoDay, NoName, NoStory
from willdealt.stories import Story

DEATHS = (("ann", -5), ("ben", 3), ("cat", 0))
EIGHT = tuple((name, at - 4) for at, name in enumerate("abcdefgh"))


class Deaths(unittest.TestCase):
    def refused(self, deaths, number):
        with self.assertRaises(NoStory, msg=repr(deaths)) as caught:
            Story(deaths)
        self.assertEqual(caught.exception.number, number, deaths)
        self.assertIs(caught.exception.number is None, number is None)

    def test_none_to_eight(self):
        for story in (Story(), Story(None), Story(()), Story(deaths=None), Story(deaths=())):
            self.assertEqual((len(story), str(story)), (0, "none"))
        self.assertEqual([Story(EIGHT).died(name) for name in "abcdefgh"], [-4, -3, -2, -1, 0, 1, 2, 3])
        self.refused(EIGHT + (("i", 0),), None)
        self.refused((None,) * 9, None)

    def test_what_is_no_tuple(self):
        for thing in ANY_KIND:
            if thing is not None and thing != ():
                self.refused(thing, 0 if isinstance(thing, tuple) else None)
        self.refused(list(DEATHS), None)

    def test_the_first_that_is_no_death(self):
        for at, death in enumerate(DEATHS):
            for other in otherwise(death):
                self.refused(DEATHS[:at] + (other,) + DEATHS[at + 1:] + ((),), at)

    def test_a_part_fewer(self):
        self.refused((("ann", 1), ("ben",)), 1)
        self.refused(((),), 0)

    def test_names(self):
        for name in NO_NAMES:
            self.refused(((name, 1),), 0)
        self.assertEqual(Story((("abcdefgh", 1),)).died("abcdefgh"), 1)

    def test_names_rising(self):
        self.refused((("ben", 1), ("ann", 2)), 1)
        self.refused((("ann", 1), ("ben", 2), ("ben", 2)), 2)
        self.refused((("ann", 1), ("cat", 2), ("ben", 2), ("ann", 0)), 2)
        self.assertEqual(len(Story((("a", 1), ("aa", 1), ("ab", 1), ("b", 1)))), 4)

    def test_days(self):
        for day in (-9999, -1, 0, 9999):
            self.assertEqual(Story((("ann", day),)).died("ann"), day)
        for day in (-10000, 10000, *ANY_KIND):
            self.refused((("ann", 1), ("ben", day)), 1)


class Asked(unittest.TestCase):
    def setUp(self):
        self.story = Story(DEATHS)

    def test_died(self):
        told = [self.story.died(name) for name in ("ann", "ben", "cat", "dan", "x")]
        self.assertEqual(told, [-5, 3, 0, None, None])
        self.assertEqual(self.story.died(name="ben"), 3)

    def test_lives(self):
        told = [self.story.lives(name) for name in ("ann", "ben", "cat", "dan")]
        self.assertEqual(told, [False, True, False, True])
        told = [Story((("ann", day),)).lives("ann") for day in (-1, 0, 1)]
        self.assertEqual(told, [False, False, True])

    def test_lives_ahead_of_on_and_behind_the_day(self):
        for name, day in DEATHS:
            for more, wanted in ((day - 1, True), (day, False), (day + 1, False), (-9999, True), (9999, False)):
                self.assertIs(self.story.lives(name, more), wanted)
                self.assertIs(self.story.lives(more=more, name=name), wanted)
        for more in (-9999, 0, 9999):
            self.assertIs(self.story.lives("dan", more), True)
        self.assertIs(Story((("ann", -9999),)).lives("ann", -9999), False)

    def test_no_name(self):
        for name in (*NO_NAMES, *ANY_KIND, 0, 7):
            for deed in (self.story.died, self.story.lives):
                with self.assertRaises(NoName, msg=repr(name)) as caught:
                    deed(name)
                self.assertIs(caught.exception.thing, name)

    def test_no_day(self):
        for more in (-10000, 10000, "0", *ANY_KIND):
            for name in ("ann", "dan"):
                with self.assertRaises(NoDay, msg=repr(more)) as caught:
                    self.story.lives(name, more)
                self.assertIs(caught.exception.thing, more)

    def test_no_name_ahead_of_no_day(self):
        with self.assertRaises(NoName) as caught:
            self.story.lives(None, 10000)
        self.assertIsNone(caught.exception.thing)


class WhatIsTold(unittest.TestCase):
    def test_len_str_repr(self):
        told = (len(Story(DEATHS)), str(Story(DEATHS)), repr(Story(DEATHS)))
        self.assertEqual(told, (3, "ann -5, ben 3, cat 0", "Story(ann -5, ben 3, cat 0)"))
        self.assertEqual(str(Story((("ann", 7),))), "ann 7")
        self.assertEqual((str(Story()), repr(Story())), ("none", "Story(none)"))

    def test_alike(self):
        self.assertTrue(Story(DEATHS) == Story(DEATHS))
        self.assertFalse(Story(DEATHS) != Story(tuple(DEATHS)))
        self.assertTrue(Story() == Story(()))
        for other in (Story(), Story(DEATHS[1:]), Story(DEATHS[:2]), Story((("ann", -5), ("ben", 3), ("cat", 1))),
                      Story((("ann", -5), ("ben", 3), ("dan", 0))), DEATHS, str(Story(DEATHS)), *ANY_KIND):
            self.assertIs(Story(DEATHS) == other, False)
            self.assertIs(Story(DEATHS) != other, True)

    def test_nothing_changes(self):
        story = Story(DEATHS)
        story.lives("ann", 3)
        with self.assertRaises(NoDay):
            story.lives("ann", None)
        self.assertEqual(story, Story(DEATHS))


if __name__ == "__main__":
    unittest.main()
