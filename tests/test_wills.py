"""Point [11]: clauses and wills."""

import itertools
import random
import unittest

from tests.chance import any_clauses
from tests.things import ANY_KIND, NO_NAMES, otherwise
from willdealt.errors import NoClause, TooMany
from willdealt.wills import Will, is_clause

WHOM = ((("one", "ann"), ("children", "ben")), (("stock", "cat"),))
COND = ("and", ("lives", "ann", -3), ("not", ("childless", "ben")))
ROW = ("rest", "kinds", "sums", "names")

GIVE = ("give", "cup", WHOM, COND)
KIND = ("kind", "gold", WHOM, None)
PAY = ("pay", 100, WHOM, COND)
REST = ("rest", 7, WHOM, None)
RANKS = ("ranks", ROW)
WAIT = ("wait", 30)
EACH = (GIVE, KIND, PAY, REST, RANKS, WAIT)


class IsClause(unittest.TestCase):
    def yes(self, thing):
        self.assertIs(is_clause(thing), True, thing)

    def no(self, thing):
        self.assertIs(is_clause(thing), False, thing)

    def test_each_form(self):
        for clause in EACH:
            self.yes(clause)
        for word, what in (("give", "cup"), ("kind", "gold"), ("pay", 0), ("rest", 1)):
            self.yes((word, what, WHOM, COND))
            self.yes((word, what, WHOM, None))
        self.assertIs(is_clause(thing=GIVE), True)

    def test_things_of_any_kind(self):
        for thing in (*ANY_KIND, -1, "wait 3", list(WAIT), WHOM, COND, (EACH,), EACH):
            self.no(thing)
            for clause in EACH:
                self.no((thing, *clause[1:]))
                self.no((clause[0], thing, *clause[2:]))
            for clause in (GIVE, KIND, PAY, REST):
                self.no((*clause[:2], thing if thing != WHOM else COND, clause[3]))
                if thing is not None and thing != COND:
                    self.no((*clause[:3], thing))

    def test_one_place_put_otherwise(self):
        for clause in EACH:
            for other in otherwise(clause):
                self.no(other)

    def test_a_part_fewer(self):
        for clause in EACH:
            for many in range(len(clause)):
                self.no(clause[:many])
        self.no(("wait", 1, WHOM, None))
        self.no(("ranks", ROW, WHOM, None))
        self.no(("pay", 1))

    def test_things_and_kinds_are_names(self):
        for word in ("give", "kind"):
            self.yes((word, "abcdefgh", WHOM, None))
            for name in NO_NAMES:
                self.no((word, name, WHOM, None))
            self.no((word, 1, WHOM, None))

    def test_sums(self):
        for amount in (0, 1, 10 ** 9):
            self.yes(("pay", amount, WHOM, None))
        for amount in (-1, 10 ** 9 + 1, True, False, "1", "cup"):
            self.no(("pay", amount, WHOM, None))

    def test_weights(self):
        for weight in (1, 2, 99):
            self.yes(("rest", weight, WHOM, None))
        for weight in (0, -1, 100, True, "1", "cup"):
            self.no(("rest", weight, WHOM, None))

    def test_waits(self):
        for wait in (0, 1, 9999):
            self.yes(("wait", wait))
        for wait in (-1, -9999, 10000, True, False, "1"):
            self.no(("wait", wait))

    def test_ranks(self):
        for row in itertools.permutations(ROW):
            self.yes(("ranks", row))
            self.no(("ranks", list(row)))
            self.no(("ranks", row[:3]))
            self.no(("ranks", row + row[:1]))
            self.no(("ranks", row[:3] + row[:1]))
            self.no(("ranks", row[:3] + ("gifts",)))
        for row in ((), ROW[:1], ("rest",) * 4, "rest", ("rest kinds sums names",)):
            self.no(("ranks", row))

    def test_words(self):
        for word in ("gives", "Give", "", "sold", "give all", "crown"):
            for clause in EACH:
                self.no((word, *clause[1:]))

    def test_whoms_and_conds_at_their_bounds(self):
        part = ("one", "ann")
        self.yes(("pay", 1, ((part,) * 6,) * 4, None))
        self.no(("pay", 1, ((part,) * 7,), None))
        self.no(("pay", 1, ((part,),) * 5, None))
        deep = ("lives", "ann")
        for turn in range(5):
            deep = ("not", deep)
        self.yes(("pay", 1, WHOM, deep))
        self.no(("pay", 1, WHOM, ("not", deep)))
        self.no(("pay", 1, WHOM, ("not", None)))


class Made(unittest.TestCase):
    def refused(self, clauses, number):
        with self.assertRaises(NoClause, msg=repr(clauses)) as caught:
            Will(clauses)
        self.assertEqual(caught.exception.number, number, clauses)
        self.assertIs(caught.exception.number is None, number is None)

    def test_clauses_as_handed_in(self):
        self.assertEqual(Will(EACH).clauses(), EACH)
        self.assertEqual(Will(clauses=(WAIT, GIVE, WAIT)).clauses(), (WAIT, GIVE, WAIT))
        self.assertIs(type(Will(EACH).clauses()), tuple)

    def test_none_for_no_clauses(self):
        for will in (Will(), Will(None), Will(()), Will(clauses=None)):
            self.assertEqual((will.clauses(), len(will)), ((), 0))

    def test_sixteen_and_seventeen(self):
        self.assertEqual(len(Will((WAIT,) * 16)), 16)
        self.refused((WAIT,) * 17, None)
        self.refused((None,) * 17, None)
        self.refused((WAIT,) * 16 + (None,), None)

    def test_the_first_that_is_no_clause(self):
        for at, clause in enumerate(EACH):
            for other in otherwise(clause):
                self.refused(EACH[:at] + (other,) + EACH[at + 1:] + ((),), at)
        self.refused((WAIT,) * 15 + (None,), 15)

    def test_what_is_no_tuple(self):
        for thing in ANY_KIND:
            if thing is not None and thing != ():
                self.refused(thing, 0 if isinstance(thing, tuple) else None)
        self.refused(list(EACH), None)
        self.refused(Will(), None)
        self.refused(WAIT, 0)

    def test_what_was_handed_in_is_not_changed(self):
        clauses = [WAIT, ["wait", 3]]
        self.refused(clauses, None)
        self.assertEqual(clauses, [WAIT, ["wait", 3]])


class Plus(unittest.TestCase):
    def test_behind(self):
        one, other = Will((GIVE, WAIT)), Will((RANKS,))
        self.assertEqual(one.plus(other).clauses(), (GIVE, WAIT, RANKS))
        self.assertEqual(other.plus(other=one).clauses(), (RANKS, GIVE, WAIT))
        self.assertEqual(one.plus(one).clauses(), (GIVE, WAIT) * 2)
        self.assertEqual((one.clauses(), other.clauses()), ((GIVE, WAIT), (RANKS,)))
        self.assertIs(type(one.plus(other)), Will)

    def test_of_none(self):
        self.assertEqual(Will().plus(Will()), Will())
        self.assertEqual(Will(EACH).plus(Will()), Will(EACH))
        self.assertEqual(Will().plus(Will(EACH)), Will(EACH))

    def test_up_to_sixteen(self):
        self.assertEqual(len(Will((WAIT,) * 9).plus(Will((GIVE,) * 7))), 16)
        for many, more in ((9, 8), (16, 1), (1, 16), (16, 16)):
            one, other = Will((WAIT,) * many), Will((GIVE,) * more)
            with self.assertRaises(TooMany) as caught:
                one.plus(other)
            self.assertEqual(caught.exception.many, many + more)
            self.assertEqual((one, other), (Will((WAIT,) * many), Will((GIVE,) * more)))


class WhatIsTold(unittest.TestCase):
    def test_len_and_repr(self):
        self.assertEqual((len(Will(EACH)), repr(Will(EACH))), (6, "Will(6)"))
        self.assertEqual(repr(Will()), "Will(0)")

    def test_str(self):
        self.assertEqual(str(Will(EACH)), "\n".join((
            "give cup to ann and ( children of ben ) else ( stock of cat ) if lives ann -3 and not childless ben",
            "give all gold to ann and ( children of ben ) else ( stock of cat )",
            "pay 100 to ann and ( children of ben ) else ( stock of cat ) if lives ann -3 and not childless ben",
            "rest 7 to ann and ( children of ben ) else ( stock of cat )",
            "ranks rest kinds sums names",
            "wait 30",
        )))
        self.assertEqual(str(Will()), "")

    def test_alike(self):
        self.assertTrue(Will(EACH) == Will(tuple(list(EACH))))
        self.assertFalse(Will(EACH) != Will(EACH))
        self.assertTrue(Will() == Will(()))
        for other in (Will(), Will(EACH[1:]), Will(EACH[::-1]), Will(EACH + EACH[:1]), EACH, str(Will(EACH)), *ANY_KIND):
            self.assertIs(Will(EACH) == other, False)
            self.assertIs(Will(EACH) != other, True)

    def test_alike_by_all_that_clauses_tell(self):
        for one, other in ((WAIT, ("wait", 31)), (PAY, ("pay", 101, WHOM, COND)), (GIVE, ("kind", "cup", WHOM, COND)),
                           (GIVE, ("give", "cup", WHOM, None)), (GIVE, ("give", "cup", WHOM[:1], COND)),
                           (RANKS, ("ranks", ROW[::-1]))):
            self.assertFalse(Will((one,)) == Will((other,)))

    def test_many_others(self):
        dice = random.Random(11)
        for turn in range(300):
            clauses = any_clauses(dice)
            will = Will(clauses)
            self.assertEqual((will.clauses(), len(will)), (clauses, len(clauses)))
            self.assertEqual(will, Will(clauses))


if __name__ == "__main__":
    unittest.main()
