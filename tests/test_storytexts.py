"""Point [8]: stories read from texts."""

import random
import unittest

from tests.chance import NAMES
from tests.things import ANY_KIND, NO_NAMES
from willdealt.errors import NoText
from willdealt.stories import Story
from willdealt.storytexts import read_story

EIGHT = ", ".join(f"{name} 1" for name in "abcdefgh")


class Read(unittest.TestCase):
    def test_nobody_dies(self):
        self.assertEqual(read_story("none"), Story())
        self.assertIs(type(read_story("none")), Story)

    def test_one_and_several(self):
        self.assertEqual(read_story("ann 7"), Story((("ann", 7),)))
        self.assertEqual(read_story("ann -5, ben 3"), Story((("ann", -5), ("ben", 3))))
        self.assertEqual(read_story(EIGHT), Story(tuple((name, 1) for name in "abcdefgh")))
        self.assertEqual(read_story(text="ann 0"), Story((("ann", 0),)))

    def test_days(self):
        for day in (-9999, -10, -1, 0, 1, 10, 9999):
            self.assertEqual(read_story(f"ann {day}").died("ann"), day)

    def test_none_is_a_name_too(self):
        self.assertEqual(read_story("none 3"), Story((("none", 3),)))
        self.assertEqual(read_story("ann 1, none 3"), Story((("ann", 1), ("none", 3))))

    def test_what_str_writes(self):
        dice = random.Random(8)
        for turn in range(300):
            names = sorted(dice.sample(NAMES, dice.randint(0, 8)))
            story = Story(tuple((name, dice.choice((-9999, -3, 0, 4, 9999))) for name in names))
            self.assertEqual(read_story(str(story)), story)
            self.assertEqual(str(read_story(str(story))), str(story))


class Refused(unittest.TestCase):
    def refused(self, text, line=0):
        with self.assertRaises(NoText, msg=repr(text)) as caught:
            read_story(text)
        self.assertEqual(caught.exception.line, line, text)
        self.assertIs(caught.exception.line is None, line is None)

    def test_what_is_no_text(self):
        for thing in (*ANY_KIND, 0, b"none", ("ann 3",), ["none"], (("ann", 3),), Story()):
            if not isinstance(thing, str):
                self.refused(thing, None)

    def test_signs_and_blanks(self):
        for text in ("", " ", ",", ", ", "none ", " none", "None", "none, none", "none, ann 3", "ann 3, none", "nones",
                     "ann", "ann ", " 3", "3", "ann  3", " ann 3", "ann 3 ", "ann 3,", "ann 3, ", ", ann 3", "ann3",
                     "ann 3,ben 4", "ann 3 ,ben 4", "ann 3 , ben 4", "ann 3,  ben 4", "ann 3, , ben 4", "ann 3,, ben 4",
                     "ann 3 ben 4", "ann 3; ben 4", "ann, 3", "ann: 3", "ann 3 4", "3 ann", "ann ben 3", "Story(ann 3)",
                     "ann 3\n", "\nann 3", "ann 3,\nben 4", "ann 3\nben 4", "ann\n3", "ann\t3", "none\n", "\n"):
            self.refused(text)

    def test_numbers(self):
        for word in ("00", "01", "-0", "-01", "+1", "--1", "-", "1.", "1x", "x", "", "10000", "-10000", "9" * 3000,
                     "-" + "9" * 3000, "1_0", "\u0661", "1 "):
            self.refused("ann " + word)
            self.refused(f"ann 1, ben {word}")

    def test_names(self):
        for name in NO_NAMES:
            self.refused(f"{name} 3")
            self.refused(f"a 3, {name} 3")

    def test_names_rise(self):
        for text in ("ben 1, ann 2", "ann 1, ann 1", "ann 1, ann 2", "ann 1, cat 1, ben 1", "b 1, aa 1"):
            self.refused(text)

    def test_nine(self):
        self.refused(EIGHT + ", i 1")
        self.refused(EIGHT + ", i 1, j 1")


if __name__ == "__main__":
    unittest.main()
