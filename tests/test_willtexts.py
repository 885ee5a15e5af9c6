"""Point [12]: wills as texts, and of [3] that plain texts are read back."""

import itertools
import random
import unittest

from tests.chance import any_clauses
from tests.things import ANY_KIND, NO_NAMES
from willdealt.errors import NoReading, NoText
from willdealt.wills import Will
from willdealt.willtexts import read_will, show_will

ANN = ("lives", "ann")
A, B, C, D, E = [("lives", name) for name in "abcde"]


def whom_of(text, reading="near"):
    """The WHOM that a text tells."""
    return read_will("pay 1 to " + text, reading).clauses()[0][2]


def cond_of(text, reading="near"):
    """The COND that a text tells, its single letters being lives of them."""
    words = [f"lives {word}" if word in "abcde" else word for word in text.split(" ")]
    return read_will("pay 1 to x if " + " ".join(words), reading).clauses()[0][3]


def parts(text):
    """`c ann` a part of children, `s ann` a stock, `o ann` one."""
    letters = {"c": "children", "s": "stock", "o": "one"}
    return tuple((letters[row.split()[0]], row.split()[1]) for row in text.split(", "))


class Refused(unittest.TestCase):
    def refused(self, text, line, *reading):
        with self.assertRaises(NoText, msg=repr(text)) as caught:
            read_will(text, *reading)
        self.assertEqual(caught.exception.line, line, text)
        self.assertIs(caught.exception.line is None, line is None)

    def line_refused(self, line):
        """The line is refused in either way, wherever it stands."""
        for reading in ("near", "wide"):
            self.refused(line, 0, reading)
            self.refused(f"wait 3\n{line}\nwait 4", 1, reading)


class Lines(Refused):
    def one(self, text):
        will = read_will(text)
        self.assertEqual(len(will), 1)
        self.assertEqual(read_will(text, "wide"), will)
        return will.clauses()[0]

    def test_each_sort(self):
        whom = ((("one", "ann"),),)
        self.assertEqual(self.one("give cup to ann"), ("give", "cup", whom, None))
        self.assertEqual(self.one("give all gold to ann"), ("kind", "gold", whom, None))
        self.assertEqual(self.one("pay 100 to ann"), ("pay", 100, whom, None))
        self.assertEqual(self.one("rest 7 to ann"), ("rest", 7, whom, None))
        for line in ("give cup", "give all gold", "pay 100", "rest 7"):
            self.assertEqual(self.one(f"{line} to ann if lives ann")[3], ANN)
        self.assertEqual(self.one("wait 30"), ("wait", 30))
        for row in itertools.permutations(("rest", "kinds", "sums", "names")):
            self.assertEqual(self.one("ranks " + " ".join(row)), ("ranks", row))

    def test_words_of_other_lines_are_names(self):
        self.assertEqual(self.one("give give to pay")[:3], ("give", "give", ((("one", "pay"),),)))
        self.assertEqual(self.one("give all wait to rest if lives one")[1:], (
            "wait", ((("one", "rest"),),), ("lives", "one")))

    def test_several(self):
        will = read_will("wait 3\ngive cup to ann\nwait 4")
        self.assertEqual([clause[0] for clause in will.clauses()], ["wait", "give", "wait"])
        self.assertIs(type(will), Will)

    def test_without_signs(self):
        for reading in ("near", "wide"):
            self.assertEqual(read_will("", reading), Will())

    def test_bounds(self):
        self.assertEqual(self.one("pay 0 to ann")[1], 0)
        self.assertEqual(self.one("pay 1000000000 to ann")[1], 10 ** 9)
        self.assertEqual(self.one("rest 1 to ann")[1], 1)
        self.assertEqual(self.one("rest 99 to ann")[1], 99)
        self.assertEqual(self.one("wait 0")[1], 0)
        self.assertEqual(self.one("wait 9999")[1], 9999)
        for day in (0, 1, -1, 9999, -9999):
            self.assertEqual(self.one(f"pay 1 to ann if lives ann {day}")[3], ("lives", "ann", day))
        for line in ("pay 1000000001 to ann", "pay -1 to ann", "rest 0 to ann", "rest 100 to ann", "rest -1 to ann",
                     "wait 10000", "wait -1", "pay 1 to ann if lives ann 10000", "pay 1 to ann if lives ann -10000",
                     "pay " + "9" * 3000 + " to ann", "wait " + "9" * 3000):
            self.line_refused(line)

    def test_numbers(self):
        for word in ("", "00", "01", "-0", "+1", "1.", "1x", "x", "1_0", "0x1", "-", "--1", "- 1", "1-", "\u0661"):
            for line in (f"pay {word} to ann", f"rest {word} to ann", f"wait {word}", f"pay 1 to ann if lives ann {word}"):
                self.line_refused(line)
        self.line_refused("pay 1 to ann if lives ann -01")
        self.line_refused("pay 1 to ann if lives ann 007")

    def test_names(self):
        for name in NO_NAMES:
            for line in (f"give {name} to ann", f"give all {name} to ann", f"give cup to {name}",
                         f"give cup to children of {name}", f"give cup to stock of {name}",
                         f"give cup to ann and {name}", f"give cup to ann else {name}",
                         f"give cup to children of ann and {name}",
                         f"give cup to children of ( ann and {name} )", f"give cup to ann if lives {name}",
                         f"give cup to ann if childless {name}", f"give cup to ann if lives {name} 3"):
                self.line_refused(line)

    def test_blanks(self):
        for line in ("give cup to ann", "give all gold to ann and ben", "pay 1 to children of ann else ben if lives ann 3",
                     "rest 1 to ( stock of ann ) if not ( childless ann or lives ben )", "wait 3",
                     "ranks rest kinds sums names"):
            self.assertEqual(len(read_will(line)), 1)
            self.line_refused(" " + line)
            self.line_refused(line + " ")
            for at in range(len(line)):
                if line[at] == " ":
                    self.line_refused(line[:at] + " " + line[at:])
                    self.line_refused(line[:at] + "\t" + line[at + 1:])
        self.line_refused("pay 1 to (stock of ann)")
        self.line_refused("pay 1 to ann if (lives ann)")

    def test_a_word_fewer_or_another(self):
        for line in ("give cup to ann", "give all gold to ann", "pay 1 to ann", "rest 1 to ann", "wait 3",
                     "give cup to children of ann", "give cup to ann if lives ann", "give cup to ann if not lives ann",
                     "give cup to ann if childless ann", "ranks rest kinds sums names",
                     "give cup to ann else ( stock of ben )", "give cup to children of ( ann and ben )",
                     "give cup to ann if ( lives ann )"):
            self.assertEqual(len(read_will(line)), 1)
            words = line.split(" ")
            for at in range(len(words)):
                if words[at] not in ("all", "not") and words[at:at + 2] != ["all", "gold"]:
                    self.line_refused(" ".join(words[:at] + words[at + 1:]))
                self.line_refused(" ".join(words[:at] + ["X"] + words[at + 1:]))
                self.line_refused(" ".join(words[:at] + ["X"] + words[at:]))
            self.line_refused(line + " X")
            self.line_refused(line + " )")
            self.line_refused(line + " and")
            self.line_refused(line + " if")

    def test_lines_of_no_sort(self):
        for line in ("give", "wait", "pay", "rest", "ranks", "Give cup to ann", "gives cup to ann", "take cup to ann",
                     "drop ann 0", "wait 3 4", "wait 3 if lives ann", "ranks rest kinds sums", "ranks rest rest kinds sums",
                     "ranks rest kinds sums names names", "ranks rest kinds sums gifts", "kind gold to ann", "none",
                     "ranks rest kinds sums names if lives ann", "give all to ann", "give all cup ring to ann",
                     "give cup to", "give cup to if lives ann", "give cup to ann if", "give cup to ann to ben",
                     "give cup to ann if lives ann if lives ben", "give cup to ann if lives ann else ben",
                     "give cup to ann if ann", "give cup to ann if not", "give cup to ann if lives",
                     "give cup to ann if lives ann ben", "give cup to ann if childless ann 3",
                     "give cup to ann if lives ann 3 4", "give cup to ann or ben"):
            self.line_refused(line)

    def test_the_number_of_the_first_line(self):
        self.refused("wait 1\nwait 2\nwait x\nwait y", 2)
        # Line 0 is so written, but tells no clause: it comes first all the same.
        self.refused("rest 0 to ann\nwait x", 0)
        self.refused("wait 1\npay 1 to ann if " + "not " * 6 + "lives ann\n\n", 1)

    def test_line_ends(self):
        self.refused("\n", 0)
        self.refused("\nwait 3", 0)
        self.refused("wait 3\n", 1)
        self.refused("wait 3\n\nwait 3", 1)
        self.refused("wait 3\nwait 3\n", 2)
        self.refused(" ", 0)

    def test_sixteen_lines_and_seventeen(self):
        self.assertEqual(len(read_will("\n".join(["wait 3"] * 16))), 16)
        self.refused("\n".join(["wait 3"] * 17), 16)
        self.refused("\n".join(["wait 3"] * 20), 16)
        self.refused("\n".join(["wait 3"] * 16) + "\n", 16)
        self.refused("\n".join(["wait 3"] * 15 + ["wait x", "wait 3"]), 15)
        self.refused("\n".join(["wait x"] + ["wait 3"] * 20), 0)


class Whoms(Refused):
    def both(self, text, *rows):
        wanted = tuple(parts(row) for row in rows)
        for reading in ("near", "wide"):
            self.assertEqual(whom_of(text, reading), wanted, text)

    def spot(self, text, near, wide):
        self.assertEqual(whom_of(text), tuple(parts(row) for row in near.split(" else ")), text)
        self.assertEqual(whom_of(text, "wide"), tuple(parts(row) for row in wide.split(" else ")), text)

    def test_items(self):
        self.both("a", "o a")
        self.both("a and b and a", "o a, o b, o a")
        self.both("children of a", "c a")
        self.both("stock of a", "s a")
        self.both("children of ( a and b )", "c a, c b")
        self.both("stock of ( a and b and c )", "s a, s b, s c")
        self.both("( children of a )", "c a")
        self.both("( stock of a )", "s a")
        self.both("( children of ( a and b ) )", "c a, c b")
        self.both("( stock of ( a and b ) ) and c", "s a, s b, o c")
        self.both("a and children of b", "o a, c b")
        self.both("children of a and stock of b", "c a, s b")

    def test_alternatives(self):
        self.both("a else b and c else children of d else ( stock of e )", "o a", "o b, o c", "c d", "s e")
        self.both("children of a else b", "c a", "o b")
        self.assertEqual(len(whom_of("a else a else a else a")), 4)
        self.line_refused("pay 1 to a else a else a else a else a")
        self.line_refused("pay 1 to a else else a")
        self.line_refused("pay 1 to else a")
        self.line_refused("pay 1 to a else")

    def test_six_parts(self):
        self.both("a and a and a and a and a and a", "o a, o a, o a, o a, o a, o a")
        self.both("a and children of ( a and a ) and stock of ( a and a and a )", "o a, c a, c a, s a, s a, s a")
        self.line_refused("pay 1 to a and a and a and a and a and a and a")
        self.line_refused("pay 1 to a and a and stock of ( a and a and a and a and a )")
        self.line_refused("pay 1 to stock of a and a and a and a and a and a and a")

    def test_spots(self):
        self.spot("children of a and b", "c a, o b", "c a, c b")
        self.spot("stock of a and b and c", "s a, o b, o c", "s a, s b, s c")
        self.spot("x and children of a and b", "o x, c a, o b", "o x, c a, c b")
        self.spot("children of a and b else c", "c a, o b else o c", "c a, c b else o c")
        self.spot("c else children of a and b", "o c else c a, o b", "o c else c a, c b")
        self.spot("children of a and b and stock of c and d", "c a, o b, s c, o d", "c a, c b, s c, s d")
        self.spot("children of a and b and ( stock of c ) and d", "c a, o b, s c, o d", "c a, c b, s c, o d")
        self.spot("children of a and b and stock of ( c and d ) and e", "c a, o b, s c, s d, o e", "c a, c b, s c, s d, o e")

    def test_what_is_no_spot(self):
        self.both("( children of a ) and b", "c a, o b")
        self.both("( stock of a ) and b and c", "s a, o b, o c")
        self.both("children of ( a and b ) and c", "c a, c b, o c")
        self.both("children of a and children of b", "c a, c b")
        self.both("children of a and ( children of b ) and c", "c a, c b, o c")
        self.both("a and b and children of c", "o a, o b, c c")

    def test_brackets(self):
        for text in ("( a )", "( a and b )", "( ( children of a ) )", "children of ( a )", "children of ( ( a and b ) )",
                     "( children of a and b )", "( children of a ) )", "( children of a", "children of ( a and b",
                     "children of ( a else b )", "children of ( a or b )", "children of ( a and children of b )",
                     "children of ( a and ( b and c ) )", "children of ( )", "( )", "()", "children of ( a and )",
                     "children ( a and b )", "( children of a and children of b )", "( children of a else b )",
                     "children of a b", "children a", "children of", "children of of a", "a b", "and a", "a and and b",
                     "children of stock of a", "children of ( a b )", "( ( children of ( a and b ) ) )", "not a",
                     "one of a", "( one of a )", "( one of ( a and b ) )", "one of ( a and b )"):
            self.line_refused("pay 1 to " + text)

    def test_a_cond_behind(self):
        clause = read_will("pay 1 to children of a and b if lives a and lives b or lives c", "wide").clauses()[0]
        self.assertEqual(clause[2:], ((parts("c a, c b"),), ("and", A, ("or", B, C))))


class Conds(Refused):
    def both(self, text, cond):
        for reading in ("near", "wide"):
            self.assertEqual(cond_of(text, reading), cond, text)

    def spot(self, text, near, wide):
        self.assertEqual(cond_of(text), near, text)
        self.assertEqual(cond_of(text, "wide"), wide, text)

    def test_terms(self):
        self.both("a", A)
        self.both("a 5", ("lives", "a", 5))
        self.both("a -5", ("lives", "a", -5))
        self.both("childless x", ("childless", "x"))
        self.both("not a", ("not", A))
        self.both("not not a 3", ("not", ("not", ("lives", "a", 3))))
        self.both("( a )", A)
        self.both("( ( ( childless x ) ) )", ("childless", "x"))
        self.both("not ( not ( a ) )", ("not", ("not", A)))

    def test_rows(self):
        self.both("a and b", ("and", A, B))
        self.both("a or b or c", ("or", A, B, C))
        self.both("a 3 and b", ("and", ("lives", "a", 3), B))
        self.both("not a and b", ("and", ("not", A), B))
        self.both("not ( a and b )", ("not", ("and", A, B)))
        self.both("( a and b )", ("and", A, B))
        self.both("a and ( b and c )", ("and", A, ("and", B, C)))
        self.both("( a or b ) and c", ("and", ("or", A, B), C))
        self.both("a and b and c and d and e and a", ("and", A, B, C, D, E, A))
        self.line_refused("pay 1 to x if " + " and ".join(["lives a"] * 7))
        self.line_refused("pay 1 to x if " + " or ".join(["lives a"] * 7))

    def test_spots(self):
        self.spot("a and b or c", ("or", ("and", A, B), C), ("and", A, ("or", B, C)))
        self.spot("a or b and c", ("or", A, ("and", B, C)), ("and", ("or", A, B), C))
        self.spot("a and b or c and d", ("or", ("and", A, B), ("and", C, D)), ("and", A, ("or", B, C), D))
        self.spot("a or b and c or d", ("or", A, ("and", B, C), D), ("and", ("or", A, B), ("or", C, D)))
        self.spot("a and b and c or d or e", ("or", ("and", A, B, C), D, E), ("and", A, B, ("or", C, D, E)))
        self.spot("not a and b or c", ("or", ("and", ("not", A), B), C), ("and", ("not", A), ("or", B, C)))

    def test_spots_within_brackets(self):
        near, wide = ("or", ("and", A, B), C), ("and", A, ("or", B, C))
        self.spot("( a and b or c )", near, wide)
        self.spot("not ( a and b or c )", ("not", near), ("not", wide))
        self.spot("d and ( a and b or c )", ("and", D, near), ("and", D, wide))
        self.spot("( ( a and b or c ) or d )", ("or", near, D), ("or", wide, D))
        self.spot("d or ( a and b or c ) and e", ("or", D, ("and", near, E)), ("and", ("or", D, wide), E))

    def test_what_brackets_hold_is_no_spot(self):
        self.both("( a and b ) or c", ("or", ("and", A, B), C))
        self.both("a and ( b or c ) and d", ("and", A, ("or", B, C), D))

    def test_twelve_brackets(self):
        for many in (1, 11, 12):
            self.both("( " * many + "a" + " )" * many, A)
        for many in (13, 14, 300):
            self.line_refused("pay 1 to x if " + "( " * many + "lives a" + " )" * many)
        # Side by side they may be more.
        twelve = "( " * 12 + "a" + " )" * 12
        self.both(f"{twelve} and {twelve}", ("and", A, A))
        self.both(f"not {twelve}", ("not", A))
        self.both("( not " * 5 + "a" + " )" * 5, ("not", ("not", ("not", ("not", ("not", A))))))

    def test_brackets_that_do_not_close(self):
        for text in ("( lives a", "lives a )", "( )", "( lives a ) )", "( ( lives a )", ") lives a (", "lives ( a )",
                     "not ( )", "( lives a and )", "( and lives a )", "lives a ( and lives b )", "(lives a)",
                     "( lives a ) ( lives b )", "lives a and ( lives b", "( lives a ) 3"):
            self.line_refused("pay 1 to x if " + text)

    def test_rows_that_do_not_join(self):
        for text in ("lives a and", "and lives a", "lives a and and lives b", "lives a and or lives b", "lives a lives b",
                     "lives a not lives b", "lives a and b", "lives a else lives b", "not", "not and lives a",
                     "lives a and not", "lives not a", "children of a", "a"):
            self.line_refused("pay 1 to x if " + text)

    def test_six_deep(self):
        self.both("not not not not not a", ("not", ("not", ("not", ("not", ("not", A))))))
        for many in (6, 7, 13, 900):
            self.line_refused("pay 1 to x if " + "not " * many + "lives a")
        self.line_refused("pay 1 to x if " + "not ( " * 6 + "lives a" + " )" * 6)
        self.line_refused("pay 1 to x if lives a and " + "not " * 5 + "lives a")

    def test_twelve_names(self):
        row = " and ".join(["lives a"] * 6)
        self.assertEqual(len(read_will(f"pay 1 to x if ( {row} ) or ( {row} )")), 1)
        self.line_refused(f"pay 1 to x if ( {row} ) or ( {row} ) or lives a")

    def test_a_clause_by_one_reading_only(self):
        text = "pay 1 to x if lives a and lives b or " + "not " * 4 + "lives c"
        self.assertEqual(read_will(text).clauses()[0][3][2], ("not", ("not", ("not", ("not", C)))))
        # Read wide it stands seven deep.
        self.refused(text, 0, "wide")
        self.line_refused(text.replace("lives c", "not lives c"))
        terms = "lives a and lives b and lives c and lives d or lives a and lives b and lives c and lives d"
        text = "wait 1\npay 1 to x if " + terms
        self.assertEqual(read_will(text).clauses()[1][3], ("or", ("and", A, B, C, D), ("and", A, B, C, D)))
        # Read wide it has seven terms.
        self.refused(text, 1, "wide")
        # Read near it stands seven deep.
        text = "wait 1\npay 1 to x if lives a or lives b and lives c or lives d and " + "not " * 4 + "lives e"
        self.assertEqual(read_will(text, "wide").clauses()[1][3][3], ("not", ("not", ("not", ("not", E)))))
        self.refused(text, 1, "near")


class Refusals(Refused):
    def test_what_is_no_text(self):
        for thing in (*ANY_KIND, 0, ["wait 3"], b"wait 3", Will()):
            if not isinstance(thing, str):
                self.refused(thing, None)
                self.refused(thing, None, "wide")
                self.refused(thing, None, "far")

    def test_other_readings(self):
        for reading in (*ANY_KIND, "far", "Near", "near ", "nearwide", 0, ("near",), ["near", "wide"]):
            for text in ("", "wait 3", "wait x"):
                with self.assertRaises(NoReading) as caught:
                    read_will(text, reading)
                self.assertIs(caught.exception.thing, reading)

    def test_by_name_and_left_out(self):
        text = "give cup to children of a and b"
        self.assertEqual(read_will(text), read_will(text, "near"))
        self.assertEqual(read_will(reading="wide", text=text), read_will(text, "wide"))
        self.assertNotEqual(read_will(text), read_will(text, reading="wide"))
        self.assertEqual(show_will(will=read_will(text)), show_will(read_will(text)))


class Plainly(unittest.TestCase):
    def shown(self, text, plain, reading="near"):
        self.assertEqual(show_will(read_will(text, reading)), plain)

    def test_whoms(self):
        self.shown("pay 1 to children of a and b", "pay 1 to ( children of a ) and b")
        self.shown("pay 1 to children of a and b", "pay 1 to ( children of a ) and ( children of b )", "wide")
        self.shown("pay 1 to stock of ( a and b ) else c", "pay 1 to ( stock of a ) and ( stock of b ) else c")
        self.shown("pay 1 to a and b", "pay 1 to a and b")

    def test_conds(self):
        start = "pay 1 to x if "
        for text, plain in (
            ("lives a", "lives a"), ("( lives a )", "lives a"), ("lives a -3", "lives a -3"),
            ("( lives a and lives b )", "lives a and lives b"), ("childless a", "childless a"),
            ("lives a and lives b or lives c", "( lives a and lives b ) or lives c"),
            ("not ( lives a or lives b )", "not ( lives a or lives b )"),
            ("not ( not ( lives a ) )", "not not lives a"),
            ("not lives a and ( not lives b )", "not lives a and not lives b"),
            ("lives a and ( lives b and ( lives c or lives d ) )", "lives a and ( lives b and ( lives c or lives d ) )"),
        ):
            self.shown(start + text, start + plain)

    def test_each_sort_of_line(self):
        for line in ("give cup to ann", "give all gold to ann", "pay 0 to ann", "rest 99 to ann if lives ann",
                     "wait 9999", "ranks names sums kinds rest", ""):
            self.shown(line, line)
        self.shown("wait 1\nwait 2\ngive cup to ann", "wait 1\nwait 2\ngive cup to ann")

    def test_str_is_the_plain_text(self):
        will = read_will("pay 1 to children of a and b\nwait 3")
        self.assertEqual(str(will), show_will(will))
        self.assertIs(type(show_will(will)), str)

    def test_read_back_in_either_way(self):
        dice = random.Random(12)
        many = 0
        for turn in range(600):
            will = Will(any_clauses(dice, most=8))
            text = show_will(will)
            if len(text) <= 4000:
                many += 1
                for reading in ("near", "wide"):
                    self.assertEqual(read_will(text, reading), will)
                    self.assertEqual(show_will(read_will(text, reading)), text)
        self.assertGreater(many, 400)


class ByPythonsOwn(unittest.TestCase):
    """Python reads and ahead of or, as near does; with both words changed and all negated it is wide."""

    def held(self, cond, living):
        if cond[0] == "lives":
            return cond[1] in living
        told = [self.held(part, living) for part in cond[1:]]
        return {"not": not told[0], "and": all(told), "or": any(told)}[cond[0]]

    def row(self, dice, deep):
        terms = []
        for turn in range(dice.randint(1, 4)):
            nots = "not " * dice.choice((0, 0, 1))
            inner = f"( {self.row(dice, deep - 1)} )" if deep and dice.random() < 0.3 else dice.choice("abcde")
            terms += [nots + inner, dice.choice(("and", "or"))]
        return " ".join(terms[:-1])

    def test_rows_by_chance(self):
        dice = random.Random(13)
        told = 0
        swap = {"and": "or", "or": "and"}
        for turn in range(500):
            text = self.row(dice, 2)
            swapped = " ".join(swap.get(word, word) for word in text.split(" "))
            for reading in ("near", "wide"):
                try:
                    cond = cond_of(text, reading)
                except NoText:
                    continue
                told += 1
                for bits in range(32):
                    living = {letter: bool(bits >> at & 1) for at, letter in enumerate("abcde")}
                    dead = {letter: not on for letter, on in living.items()}
                    wanted = eval(text, {}, living) if reading == "near" else not eval(swapped, {}, dead)
                    self.assertIs(self.held(cond, [letter for letter in living if living[letter]]), wanted, text)
        self.assertGreater(told, 500)


if __name__ == "__main__":
    unittest.main()
