"""Point [13]: spots and readings, and of [3] and [12] that plain texts have no spots."""

import itertools
import random
import unittest

from tests.chance import any_clauses
from tests.things import ANY_KIND
from willdealt.errors import NoText, TooMany
from willdealt.readings import readings, spots
from willdealt.wills import Will
from willdealt.willtexts import read_will, show_will

PLAIN = "pay 1 to ( children of a ) and b if ( lives a and lives b ) or lives c"
KIN = "pay 1 to children of a and b"
MIXED = "pay 1 to x if lives a and lives b or lives c"
BOTH = "pay 1 to stock of a and b if lives a or lives b and lives c"
WITHIN = "pay 1 to x if ( lives a and lives b or lives c ) and lives d or lives e"
TWO_KIN = "pay 1 to children of a and b and stock of c and d"
TWO_ALTERNATIVES = "pay 1 to children of a and b else stock of c and d"
A, B, C, D, E = [("lives", name) for name in "abcde"]


def rows(*texts):
    return "\n".join(texts)


class Refused(unittest.TestCase):
    def no_text(self, deed, text, line):
        with self.assertRaises(NoText, msg=repr(text)) as caught:
            deed(text)
        self.assertEqual(caught.exception.line, line, text)
        self.assertIs(caught.exception.line is None, line is None)


class Spots(unittest.TestCase):
    def test_none(self):
        for text in ("", "wait 3", PLAIN, "ranks rest kinds sums names", "pay 1 to a and b if lives a and lives b",
                     "pay 1 to children of ( a and b ) and c", "pay 1 to children of a and children of b",
                     "pay 1 to children of a else b", "pay 1 to x if lives a and ( lives b or lives c )",
                     "pay 1 to x if not ( lives a or lives b )", "pay 1 to b and children of a"):
            self.assertEqual(spots(text), (), text)

    def test_one(self):
        for text in (KIN, MIXED, "pay 1 to x if not ( lives a and lives b or lives c )",
                     "pay 1 to x if ( ( lives a and lives b or lives c ) )", "pay 1 to stock of a and b and c and d",
                     "pay 1 to x if lives a and lives b or lives c and lives d or lives e"):
            self.assertEqual(spots(text), (0,), text)
            self.assertEqual(spots(rows("wait 3", text)), (1,), text)

    def test_two_in_a_line(self):
        for text in (BOTH, WITHIN, TWO_KIN, TWO_ALTERNATIVES,
                     "pay 1 to x if ( lives a and lives b or lives c ) and ( lives a or lives b and lives c )"):
            self.assertEqual(spots(text), (0, 0), text)

    def test_line_by_line(self):
        self.assertEqual(spots(rows(KIN, "wait 3", BOTH, PLAIN, MIXED)), (0, 2, 2, 4))

    def test_more_than_four(self):
        self.assertEqual(spots(rows(*[BOTH] * 3)), (0, 0, 1, 1, 2, 2))
        self.assertEqual(spots(rows(*[BOTH] * 16)), tuple(at // 2 for at in range(32)))

    def test_told_as_a_tuple_by_name(self):
        self.assertEqual(spots(text=KIN), (0,))
        self.assertIs(type(spots(KIN)), tuple)


class Readings(unittest.TestCase):
    def test_without_spots(self):
        self.assertEqual(readings(""), (Will(),))
        for text in ("wait 3", PLAIN, rows(PLAIN, "wait 3")):
            self.assertEqual(readings(text), (read_will(text),))
        self.assertIs(type(readings("")), tuple)
        self.assertEqual(readings(text="wait 3"), (read_will("wait 3"),))

    def test_one(self):
        for text in (KIN, MIXED, rows("wait 3", MIXED)):
            self.assertEqual(readings(text), (read_will(text), read_will(text, "wide")))

    def test_near_first_and_wide_last(self):
        for text in (KIN, MIXED, BOTH, WITHIN, TWO_KIN, TWO_ALTERNATIVES, rows(BOTH, WITHIN), rows(TWO_KIN, BOTH)):
            told = readings(text)
            self.assertEqual(len(told), 2 ** len(spots(text)))
            self.assertEqual((told[0], told[-1]), (read_will(text), read_will(text, "wide")))

    def test_the_last_changes_first(self):
        near, wide = ("or", ("and", A, B), C), ("and", A, ("or", B, C))
        text = "pay 1 to stock of a and b if lives a and lives b or lives c"
        small, great = ((("stock", "a"), ("one", "b")),), ((("stock", "a"), ("stock", "b")),)
        wanted = [("pay", 1, whom, cond) for whom in (small, great) for cond in (near, wide)]
        self.assertEqual([will.clauses()[0] for will in readings(text)], wanted)

    def test_an_outer_one_begins_ahead_of_those_within(self):
        near, wide = ("or", ("and", A, B), C), ("and", A, ("or", B, C))
        wanted = [
            ("or", ("and", near, D), E), ("or", ("and", wide, D), E),
            ("and", near, ("or", D, E)), ("and", wide, ("or", D, E)),
        ]
        self.assertEqual([will.clauses()[0][3] for will in readings(WITHIN)], wanted)
        text = "pay 1 to x if lives d and not ( lives a and lives b or lives c ) or lives e"
        wanted = [
            ("or", ("and", D, ("not", near)), E), ("or", ("and", D, ("not", wide)), E),
            ("and", D, ("or", ("not", near), E)), ("and", D, ("or", ("not", wide), E)),
        ]
        self.assertEqual([will.clauses()[0][3] for will in readings(text)], wanted)

    def test_within_one_another_and_side_by_side(self):
        mixed = "( lives a and lives b or lives c )"
        near, wide = ("or", ("and", A, B), C), ("and", A, ("or", B, C))
        told = readings(f"pay 1 to x if {mixed} and {mixed} or {mixed}")
        self.assertEqual(len(told), 16)
        for will, choice in zip(told, itertools.product((False, True), repeat=4)):
            one, two, three = [wide if each else near for each in choice[1:]]
            outer = ("and", one, ("or", two, three)) if choice[0] else ("or", ("and", one, two), three)
            self.assertEqual(will.clauses()[0][3], outer)

    def test_kin_side_by_side(self):
        told = [will.clauses()[0][2] for will in readings(TWO_KIN)]
        words = [("one", "one"), ("one", "stock"), ("children", "one"), ("children", "stock")]
        self.assertEqual(told, [((("children", "a"), (b, "b"), ("stock", "c"), (d, "d")),) for b, d in words])
        told = [will.clauses()[0][2] for will in readings(TWO_ALTERNATIVES)]
        self.assertEqual(told, [((("children", "a"), (b, "b")), (("stock", "c"), (d, "d"))) for b, d in words])

    def test_several_lines(self):
        text = rows(KIN, "wait 3", MIXED)
        lines = [(read_will(line).clauses()[0], read_will(line, "wide").clauses()[0]) for line in (KIN, MIXED)]
        wait = ("wait", 3)
        wanted = tuple(Will((lines[0][one], wait, lines[1][two])) for one in (0, 1) for two in (0, 1))
        self.assertEqual(readings(text), wanted)

    def test_alike_lines_are_chosen_apart(self):
        text = rows(KIN, KIN)
        near, wide = read_will(KIN).clauses()[0], read_will(KIN, "wide").clauses()[0]
        self.assertEqual([will.clauses() for will in readings(text)], [
            (near, near), (near, wide), (wide, near), (wide, wide)])

    def test_four_and_five(self):
        self.assertEqual(len(readings(rows(BOTH, BOTH))), 16)
        self.assertEqual(len(readings(rows(KIN, KIN, KIN, KIN))), 16)
        for text, many in ((rows(BOTH, BOTH, KIN), 5), (rows(*[BOTH] * 3), 6), (rows(*[KIN] * 16), 16)):
            with self.assertRaises(TooMany) as caught:
                readings(text)
            self.assertEqual(caught.exception.many, many)


class Refusals(Refused):
    def test_what_is_no_text(self):
        for thing in (*ANY_KIND, 0, b"wait 3", ["wait 3"], Will()):
            if not isinstance(thing, str):
                self.no_text(spots, thing, None)
                self.no_text(readings, thing, None)

    def test_no_will_read_near(self):
        for text, line in (("wait x", 0), ("wait 3\n", 1), (rows(KIN, "rest 0 to a", "x"), 1), (" ", 0),
                           (rows(*["wait 3"] * 17), 16), (rows(*[BOTH] * 3, "x"), 3), (rows(*[BOTH] * 17), 16),
                           ("pay 1 to x if lives a and not not not not lives b or lives c", 0)):
            self.no_text(spots, text, line)
            self.no_text(readings, text, line)

    def test_a_choice_that_stands_too_deep(self):
        deep = "pay 1 to x if lives a and lives b or " + "not " * 4 + "lives c"
        for text, line in ((deep, 0), (rows("wait 3", deep), 1), (rows(KIN, "wait 3", deep), 2)):
            self.assertEqual(len(read_will(text)), line + 1)
            self.assertEqual(spots(text)[-1], line)
            self.no_text(readings, text, line)

    def test_the_first_choice_that_is_none(self):
        # Both lines tell no clause if read wide; the last one is read wide first.
        deep = "pay 1 to x if lives a and lives b or " + "not " * 4 + "lives c"
        self.no_text(readings, rows(deep, "wait 3", deep), 2)
        # Read near and near the line is one, by the next choice, the inner spot wide, it is none.
        inner = "( lives a and lives b or " + "not " * 3 + "lives c )"
        text = rows(deep, f"pay 1 to x if lives d or {inner}")
        self.assertEqual(spots(text), (0, 1))
        self.no_text(readings, text, 1)

    def test_too_many_terms_by_a_choice(self):
        terms = "lives a and lives b and lives c and lives d or lives a and lives b and lives c and lives d"
        self.no_text(readings, rows(KIN, f"pay 1 to x if {terms}"), 1)

    def test_no_text_ahead_of_too_many(self):
        self.no_text(readings, rows(*[BOTH] * 3, "wait x"), 3)

    def test_too_many_ahead_of_a_choice_that_is_none(self):
        deep = "pay 1 to x if lives a and lives b or " + "not " * 4 + "lives c"
        with self.assertRaises(TooMany) as caught:
            readings(rows(deep, BOTH, BOTH))
        self.assertEqual(caught.exception.many, 5)


class PlainTexts(unittest.TestCase):
    def test_no_spots_and_one_reading(self):
        dice = random.Random(14)
        for turn in range(300):
            will = Will(any_clauses(dice, most=6))
            text = show_will(will)
            if len(text) <= 4000:
                self.assertEqual(spots(text), ())
                self.assertEqual(readings(text), (will,))

    def test_each_reading_written_plainly(self):
        for text in (BOTH, WITHIN, TWO_KIN, rows(KIN, MIXED, BOTH)):
            for will in readings(text):
                self.assertEqual(spots(show_will(will)), ())
                for reading in ("near", "wide"):
                    self.assertEqual(read_will(show_will(will), reading), will)


if __name__ == "__main__":
    unittest.main()
