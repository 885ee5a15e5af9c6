"""Point [7]: houses as texts."""

import random
import unittest

from tests.chance import any_house
from tests.things import ANY_KIND, NO_NAMES
from willdealt.errors import NoText
from willdealt.houses import House
from willdealt.housetexts import read_house, show_house

HEAD = ["purse 7", "debts 12"]
PEOPLE = ["person ann", "person ben of ann", "person cat", "person dan of ben"]
THINGS = ["thing ring gold 30", "thing ann land 1000000000", "thing cup gold 0"]
LINES = HEAD + PEOPLE + THINGS
HOUSE = House(
    (("ann", None), ("ben", "ann"), ("cat", None), ("dan", "ben")),
    (("ring", "gold", 30), ("ann", "land", 10 ** 9), ("cup", "gold", 0)), 7, 12)


def text(lines):
    return "\n".join(lines)


def put(at, line):
    """LINES with another line at a number."""
    return LINES[:at] + [line] + LINES[at + 1:]


class ReadAndShown(unittest.TestCase):
    def test_all_sorts_of_lines(self):
        self.assertEqual(read_house(text(LINES)), HOUSE)
        self.assertEqual(show_house(HOUSE), text(LINES))
        self.assertEqual(read_house(text=text(LINES)), HOUSE)
        self.assertEqual(show_house(house=HOUSE), str(HOUSE))
        self.assertIs(type(read_house(text(LINES))), House)

    def test_without_goods_or_parents(self):
        self.assertEqual(read_house("purse 0\ndebts 0\nperson ann"), House((("ann", None),)))
        self.assertEqual(show_house(House((("ann", None),))), "purse 0\ndebts 0\nperson ann")
        self.assertEqual(read_house(text(HEAD + ["person a", "person b"])), House((("a", None), ("b", None)), (), 7, 12))

    def test_eight_and_eight(self):
        lines = HEAD + [f"person {name}" for name in "abcdefgh"] + [f"thing {name} k 1" for name in "abcdefgh"]
        house = House(tuple((name, None) for name in "abcdefgh"), tuple((name, "k", 1) for name in "abcdefgh"), 7, 12)
        self.assertEqual(read_house(text(lines)), house)
        self.assertEqual(show_house(house), text(lines))

    def test_names_that_are_words_here(self):
        lines = ["purse 1", "debts 2", "person person", "person thing of person", "person purse of thing",
                 "thing thing thing 3", "thing person debts 4"]
        self.assertEqual(show_house(read_house(text(lines))), text(lines))

    def test_the_greatest_sums(self):
        lines = ["purse 1000000000", "debts 1000000000", "person a", "thing a a 1000000000"]
        self.assertEqual(show_house(read_house(text(lines))), text(lines))

    def test_drawn(self):
        dice = random.Random(7)
        for turn in range(300):
            house = any_house(dice, 8)
            self.assertEqual(read_house(show_house(house)), house)
            self.assertEqual(show_house(read_house(str(house))), str(house))


class Refused(unittest.TestCase):
    def refused(self, line, lines):
        self.thing_refused(line, text(lines) if isinstance(lines, list) else lines)

    def thing_refused(self, line, told):
        with self.assertRaises(NoText, msg=repr(told)) as caught:
            read_house(told)
        self.assertEqual(caught.exception.line, line, told)
        self.assertIs(caught.exception.line is None, line is None)

    def test_what_is_no_text(self):
        for thing in (*ANY_KIND, 7, b"purse 0", LINES, tuple(LINES), text(LINES).encode(), HOUSE):
            if not isinstance(thing, str):
                self.thing_refused(None, thing)

    def test_a_line_is_wanting(self):
        self.refused(0, "")
        self.refused(1, "purse 7")
        self.refused(2, "purse 7\ndebts 12")

    def test_a_line_end_at_the_end(self):
        self.refused(1, "purse 7\n")
        self.refused(2, "purse 7\ndebts 12\n")
        self.refused(3, "purse 7\ndebts 12\nperson ann\n")
        self.refused(len(LINES), text(LINES) + "\n")

    def test_left_out_twice_exchanged(self):
        self.refused(0, LINES[1:])
        self.refused(1, LINES[:1] + LINES[2:])
        self.refused(2, HEAD + THINGS)
        self.refused(1, ["purse 7"] + LINES)
        self.refused(2, HEAD + ["debts 12"] + LINES[2:])
        self.refused(0, ["debts 12", "purse 7"] + LINES[2:])
        self.refused(0, PEOPLE + HEAD + THINGS)
        self.refused(2, HEAD + THINGS + PEOPLE)

    def test_what_may_not_come_there(self):
        self.refused(4, HEAD + PEOPLE[:1] + THINGS[:1] + PEOPLE[1:])
        self.refused(4, HEAD + ["person x", "thing cup gold 3", "purse 7"])
        self.refused(4, HEAD + ["person x", "person y", "debts 7"])

    def test_empty_lines(self):
        for at in range(len(LINES) + 1):
            self.refused(at, LINES[:at] + [""] + LINES[at:])
            self.refused(at, LINES[:at] + [" "] + LINES[at:])

    def test_blanks_and_words(self):
        for at, line in enumerate(LINES):
            words = line.split(" ")
            for other in (" " + line, line + " ", line.replace(" ", "  ", 1), line + " x", " ".join(words[:-1]),
                          line.capitalize(), line.replace(" ", "\t"), words[0], line + ",", words[0] + "s " + words[1]):
                if other != "person ben":
                    self.refused(at, put(at, other) + ["x"])

    def test_persons(self):
        for line in ("person ann of", "person eve of ann ben", "person eve child ann", "person of ann", "person eve ann",
                     "person", "persons eve", "person eve of eve", "person eve of", "person eve of zed"):
            self.refused(6, HEAD + PEOPLE + [line] + THINGS)
        for name in NO_NAMES:
            self.refused(3, HEAD + ["person x", f"person {name}"])
            self.refused(3, HEAD + ["person x", f"person y of {name}"])

    def test_things(self):
        for line in ("thing pot tin", "thing pot 3", "thing pot tin tin 3", "thing pot 3 tin", "thing", "things pot tin 3",
                     "thing pot tin three", "thing pot tin 3 4"):
            self.refused(7, LINES[:7] + [line])
        for name in NO_NAMES:
            self.refused(7, LINES[:7] + [f"thing {name} tin 3"])
            self.refused(7, LINES[:7] + [f"thing pot {name} 3"])

    def test_numbers(self):
        for number in ("", "00", "01", "-1", "-0", "+1", "x", "1.", "1e3", "1_0", "1000000001", "9" * 3000, "\u0661"):
            self.refused(0, put(0, f"purse {number}") + ["x"])
            self.refused(1, put(1, f"debts {number}") + ["x"])
            self.refused(6, put(6, f"thing pot tin {number}") + ["x"])

    def test_a_name_again(self):
        self.refused(4, HEAD + ["person a", "person b", "person a", "x"])
        self.refused(3, HEAD + ["person a", "person a of a"])
        self.refused(5, HEAD + ["person a", "thing a k 1", "thing b k 1", "thing a m 2"])

    def test_a_parent_that_is_not_told_ahead(self):
        self.refused(3, HEAD + ["person a", "person b of c", "person c"])
        self.refused(2, HEAD + ["person a of a"])
        self.refused(3, HEAD + ["person a", "person b of cup", "thing cup gold 3"])

    def test_nine(self):
        eight = [f"person {name}" for name in "abcdefgh"]
        things = [f"thing {name} k 1" for name in "abcdefgh"]
        self.refused(10, HEAD + eight + ["person i"] + things)
        self.refused(18, HEAD + eight + things + ["thing i k 1", "x"])
        self.refused(10, HEAD + eight + ["person i", "person i"])

    def test_the_first_line_counts(self):
        self.refused(0, ["purse x", "debts x", "person Ann"])
        self.refused(3, HEAD + ["person a", "person a", "thing b"])


if __name__ == "__main__":
    unittest.main()
