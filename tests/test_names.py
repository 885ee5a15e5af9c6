"""Point [5]: what a name is."""

import string
import unittest

from willdealt.names import is_name

THIRTEEN = (
    "all and children childless crown else if lives not of or stock to"
).split()


class Own:
    """A thing of a kind that the program doesn't know."""


class IsName(unittest.TestCase):
    def assert_name(self, thing):
        self.assertIs(is_name(thing), True, thing)

    def assert_none(self, thing):
        self.assertIs(is_name(thing), False, thing)

    def test_one_to_eight_small_letters(self):
        for many in range(1, 9):
            self.assert_name("x" * many)
        for text in ("ann", "ben", "zz", "abcdefgh", "stuvwxyz"):
            self.assert_name(text)

    def test_each_letter_alone(self):
        for letter in string.ascii_lowercase:
            self.assert_name(letter)

    def test_none_and_nine_letters(self):
        self.assert_none("")
        self.assert_none("abcdefghi")
        self.assert_none("x" * 4000)

    def test_each_other_sign(self):
        others = [chr(code) for code in range(128) if chr(code) not in string.ascii_lowercase]
        for sign in others:
            for text in (sign, "a" + sign, sign + "a", "a" + sign + "b", "abcdefg" + sign):
                self.assert_none(text)

    def test_great_letters_figures_blanks_line_ends(self):
        for text in ("Ann", "anN", "ANN", "ann1", "1", " ann", "ann ", "a nn", " ",
                     "ann\n", "\nann", "\n", "a_b", "a-b", "-a", "a\t", "a\0"):
            self.assert_none(text)

    def test_letters_beyond_a_to_z(self):
        for text in ("\u00e9", "a\u00df", "\u0430nn", "\u00aa", "\uff41"):
            self.assert_none(text)

    def test_each_of_the_thirteen_words(self):
        self.assertEqual(len(THIRTEEN), 13)
        for word in THIRTEEN:
            self.assert_none(word)

    def test_what_is_near_the_words(self):
        for word in THIRTEEN:
            if len(word) < 8:
                self.assert_name(word + "x")
                self.assert_name("x" + word)
            self.assert_none(word.upper())
        for text in ("al", "l", "child", "o", "i", "t", "live", "alland", "ofto"):
            self.assert_name(text)

    def test_other_words_of_texts_are_names(self):
        for text in ("give", "pay", "rest", "kind", "wait", "ranks", "one", "none", "person"):
            self.assert_name(text)

    def test_things_of_other_kinds(self):
        for thing in (None, True, False, 0, 1, -1, 10 ** 5000, (), ("ann",), ("a", "b"), [],
                      ["ann"], ["a"], {}, {"ann": 1}, {"a"}, frozenset("a"), b"ann", b"",
                      bytearray(b"a"), range(3), Own(), Own, len, (("ann",),)):
            self.assert_none(thing)

    def test_things_eight_deep(self):
        deep = "ann"
        for depth in range(8):
            deep = (deep,) if depth & 1 else [deep]
            self.assert_none(deep)

    def test_by_place_and_by_name(self):
        self.assertIs(is_name(thing="ann"), True)
        self.assertIs(is_name(thing=None), False)

    def test_told_the_same_each_time_and_nothing_changed(self):
        thing = ["ann", ["ben"]]
        self.assertEqual([is_name(thing), is_name(thing)], [False, False])
        self.assertEqual(thing, ["ann", ["ben"]])
        self.assertEqual([is_name("ann"), is_name("ann")], [True, True])


if __name__ == "__main__":
    unittest.main()
