"""Point [22]: papers, which of them stand, and the will that they make. Of [3]: in whatever order they were found."""

import itertools
import random
import unittest

from tests.things import ANY_KIND, NO_NAMES, THIRTEEN
from willdealt.chests import Chest
from willdealt.errors import (
    DayStands, LabelStands, NoDay, NoLabel, NoName, NoText, NoUndo, NoWord, TooMany,
)
from willdealt.wills import Will
from willdealt.willtexts import read_will

WORDS = ("will", "codicil", "strike", "wake")
CLAUSE = "pay 1 to ann"


def chest(*papers):
    """A chest of papers (LABEL, DAY, WORD, BODY)."""
    one = Chest()
    for paper in papers:
        one.put(*paper)
    return one


def text(*lines):
    return "\n".join(lines)


def pays(*sums):
    """A text of pays by which a clause is known again."""
    return text(*[f"pay {amount} to ann" for amount in sums])


def sums(one):
    """The sums of a chest's will."""
    return [clause[1] for clause in one.will().clauses()]


def seen(one):
    """All that a chest tells."""
    return (len(one), one.labels(), one.standing(), [one.told(label) for label in one.labels()], str(one.will()))


class Refusals(unittest.TestCase):
    def refused(self, refusal, *paper, one=None):
        one = chest(("old", 0, "will", CLAUSE)) if one is None else one
        before = seen(one)
        with self.assertRaises(refusal, msg=repr(paper)) as caught:
            one.put(*paper)
        self.assertIs(type(caught.exception), refusal)
        self.assertEqual(seen(one), before)
        return caught.exception

    def test_labels(self):
        for thing in (*ANY_KIND, *NO_NAMES, 5):
            self.assertIs(self.refused(NoName, thing, 1, "will", CLAUSE).thing, thing)

    def test_days(self):
        for thing in (*ANY_KIND, "5", -10000, 10000):
            self.assertIs(self.refused(NoDay, "new", thing, "will", CLAUSE).thing, thing)

    def test_words(self):
        for thing in (*ANY_KIND, 5, "Will", "wills", "will ", "drop", "give", "codicils", "undo", b"will"):
            self.assertIs(self.refused(NoWord, "new", 1, thing, CLAUSE).thing, thing)

    def test_bodies_that_are_labels(self):
        for word in ("strike", "wake"):
            for thing in (*ANY_KIND, *NO_NAMES, CLAUSE, 5):
                self.assertIs(self.refused(NoName, "new", 1, word, thing).thing, thing)

    def test_bodies_that_are_texts(self):
        for word in ("will", "codicil"):
            for thing in (*ANY_KIND, 5):
                if not isinstance(thing, str):
                    self.assertIsNone(self.refused(NoText, "new", 1, word, thing).line)
            for line, body in (
                (0, "old"), (0, " "), (0, "\n"), (1, CLAUSE + "\n"), (0, "\n" + CLAUSE), (1, text(CLAUSE, "pay 01 to ann")),
                (2, text(CLAUSE, "drop old 0", "pay x to ann", "drop")), (0, "pay 1000000001 to ann"),
                (0, "give cup to children of a and b and c and d and e and f and g"),
            ):
                self.assertEqual(self.refused(NoText, "new", 1, word, body).line, line)

    def test_drops_that_are_not_so_written(self):
        for drop in ("drop", "drop ", "drop old", "drop old ", "drop old 0 ", "drop  old 0", " drop old 0", "drop old 00",
                     "drop old 01", "drop old -1", "drop old -0", "drop old +1", "drop old x", "drop old 0 0", "drop Old 0",
                     "drop 0 old", "drop old", "Drop old 0", "drops old 0", "drop old 0 to ann", "drop ( old 0 )",
                     "drop old 0 if lives ann", "drop abcdefghi 0", *[f"drop {word} 0" for word in THIRTEEN]):
            self.assertEqual(self.refused(NoText, "new", 1, "codicil", drop).line, 0)
            self.assertEqual(self.refused(NoText, "new", 1, "will", text("drop a 0", CLAUSE, drop, "x")).line, 2)

    def test_no_drops_in_bodies_of_the_other_words(self):
        self.refused(NoName, "new", 1, "strike", "drop old 0")

    def test_drops_are_no_lines_of_a_will_alone(self):
        with self.assertRaises(NoText):
            read_will("drop old 0")

    def test_sixteen_clauses_and_drops(self):
        drops, clauses = ["drop a 0"] * 16, [CLAUSE] * 16
        for lines in (drops + clauses, clauses + drops, [line for pair in zip(drops, clauses) for line in pair]):
            one = chest(("new", 1, "will", text(*lines)))
            self.assertEqual(len(one.will()), 16)
            self.assertEqual(self.refused(NoText, "new", 1, "will", text(*lines, CLAUSE)).line, 32)
            self.assertEqual(self.refused(NoText, "new", 1, "will", text(*lines, "drop a 0")).line, 32)
        self.assertEqual(self.refused(NoText, "new", 1, "codicil", text(*drops, "drop b 1", CLAUSE)).line, 16)
        self.assertEqual(self.refused(NoText, "new", 1, "codicil", text(*clauses, CLAUSE, "x")).line, 16)
        self.assertEqual(self.refused(NoText, "new", 1, "codicil", text(*clauses, "drop", CLAUSE)).line, 16)

    def test_labels_and_days_that_stand(self):
        for word in WORDS:
            body = CLAUSE if word in ("will", "codicil") else "old"
            self.assertEqual(self.refused(LabelStands, "old", 1, word, body).name, "old")
            self.assertEqual(self.refused(DayStands, "new", 0, word, body).thing, 0)
        one = chest(("a", 1, "strike", "x"), ("b", -2, "wake", "a"))
        self.assertEqual(self.refused(LabelStands, "a", 3, "will", "", one=one).name, "a")
        self.assertEqual(self.refused(DayStands, "c", -2, "will", "", one=one).thing, -2)

    def test_the_thirteenth(self):
        one = Chest()
        for day in range(12):
            one.put("abcdefghijkl"[day], day, "codicil" if day % 2 else "wake", "" if day % 2 else "a")
        self.assertEqual(len(one), 12)
        for word, body in (("will", ""), ("strike", "a")):
            self.assertEqual(self.refused(TooMany, "m", 99, word, body, one=one).many, 13)
        one.undo()
        one.put("m", 99, "codicil", CLAUSE)
        self.assertEqual(len(one), 12)
        self.refused(LabelStands, "m", 99, "will", "", one=one)
        self.refused(DayStands, "n", 99, "will", "", one=one)
        self.refused(NoText, "n", 100, "will", "x", one=one)

    def test_of_two_faults_the_first(self):
        self.refused(NoName, "Old", 99999, "willing", None)
        self.refused(NoDay, "old", 99999, "willing", None)
        self.refused(NoWord, "old", 0, "willing", None)
        self.refused(NoText, "old", 0, "will", "x")
        self.refused(NoText, "old", 0, "codicil", None)
        self.refused(NoName, "old", 0, "strike", None)
        self.assertEqual(self.refused(LabelStands, "old", 0, "will", "").name, "old")

    def test_by_names(self):
        one = Chest()
        self.assertIsNone(one.put(body=CLAUSE, word="will", day=3, label="new"))
        self.assertEqual(one.told(label="new"), (3, "will", CLAUSE))


class Undo(unittest.TestCase):
    def test_of_none(self):
        one = Chest()
        with self.assertRaises(NoUndo):
            one.undo()
        one.put("a", 1, "will", "")
        one.undo()
        with self.assertRaises(NoUndo):
            one.undo()
        self.assertEqual(len(one), 0)

    def test_the_last_put_whatever_its_day(self):
        one = chest(("a", 9, "will", pays(1)), ("b", 3, "codicil", pays(2)))
        self.assertIsNone(one.undo())
        self.assertEqual((one.labels(), sums(one)), (["a"], [1]))

    def test_several(self):
        papers = [("a", 1, "will", pays(1)), ("b", 2, "codicil", pays(2)), ("c", 3, "strike", "b"), ("d", 0, "will", pays(3))]
        states = [seen(chest(*papers[:many])) for many in range(5)]
        one = chest(*papers)
        for many in (4, 3, 2, 1, 0):
            self.assertEqual(seen(one), states[many])
            if many:
                one.undo()

    def test_a_refused_put_is_none(self):
        one = chest(("a", 1, "will", pays(1)), ("b", 2, "codicil", pays(2)))
        with self.assertRaises(LabelStands):
            one.put("b", 3, "will", "")
        one.undo()
        self.assertEqual(one.labels(), ["a"])

    def test_labels_and_days_are_free_again(self):
        one = chest(("a", 1, "will", pays(1)))
        one.undo()
        one.put("a", 1, "codicil", pays(2))
        self.assertEqual((one.told("a"), sums(one)), ((1, "codicil", pays(2)), [2]))
        one.put("b", 2, "codicil", "")
        one.undo()
        one.undo()
        self.assertEqual(len(one), 0)


class Told(unittest.TestCase):
    def test_labels_by_days(self):
        one = chest(("b", 5, "will", ""), ("a", -5, "strike", "x"), ("c", 0, "wake", "b"))
        self.assertEqual(one.labels(), ["a", "c", "b"])
        self.assertEqual(Chest().labels(), [])

    def test_told(self):
        body = text(CLAUSE, "drop x 12345678901234567890")
        one = chest(("b", 5, "will", body), ("a", -5, "strike", "x"))
        self.assertEqual((one.told("b"), one.told("a")), ((5, "will", body), (-5, "strike", "x")))
        self.assertIs(type(one.told("a")), tuple)

    def test_no_label(self):
        one = chest(("b", 5, "strike", "x"))
        for thing in ("a", "x", 5, *ANY_KIND):
            with self.assertRaises(NoLabel, msg=repr(thing)) as caught:
                one.told(thing)
            self.assertIs(caught.exception.name, thing)

    def test_empty(self):
        one = Chest()
        self.assertEqual((len(one), one.labels(), one.standing(), one.will()), (0, [], [], Will()))

    def test_lists_are_new(self):
        one = chest(("a", 1, "will", CLAUSE), ("b", 2, "codicil", CLAUSE))
        before = seen(one)
        one.labels().clear()
        one.standing().append("x")
        self.assertEqual(seen(one), before)
        self.assertEqual((type(one.labels()), type(one.standing())), (list, list))

    def test_two_chests(self):
        one, other = Chest(), Chest()
        one.put("a", 1, "will", CLAUSE)
        self.assertEqual((len(one), len(other)), (1, 0))
        other.put("a", 1, "strike", "b")
        self.assertEqual((one.standing(), other.standing()), (["a"], []))


class Standing(unittest.TestCase):
    def stands(self, *papers):
        """What stands of papers, put in any order."""
        told = {tuple(chest(*row).standing()) for row in itertools.permutations(papers)}
        self.assertEqual(len(told), 1, papers)
        return list(told.pop())

    def test_wills_and_codicils(self):
        a, b, c = ("a", 1, "will", ""), ("b", 2, "codicil", ""), ("c", 3, "codicil", "")
        self.assertEqual(self.stands(a), ["a"])
        self.assertEqual(self.stands(b), ["b"])
        self.assertEqual(self.stands(a, b, c), ["a", "b", "c"])
        self.assertEqual(self.stands(b, c), ["b", "c"])
        self.assertEqual(self.stands(a, b, ("d", 4, "will", "")), ["d"])
        self.assertEqual(self.stands(a, b, c, ("d", 0, "will", "")), ["a", "b", "c"])
        self.assertEqual(self.stands(("z", -9, "codicil", ""), ("y", -8, "codicil", "")), ["z", "y"])

    def test_strike(self):
        a, b = ("a", 1, "will", ""), ("b", 2, "codicil", "")
        self.assertEqual(self.stands(a, b, ("s", 3, "strike", "a")), ["b"])
        self.assertEqual(self.stands(a, b, ("s", 3, "strike", "b")), ["a"])
        self.assertEqual(self.stands(a, b, ("s", 3, "strike", "b"), ("t", 4, "strike", "b")), ["a"])
        self.assertEqual(self.stands(a, ("s", 3, "strike", "a")), [])

    def test_strike_of_what_comes_later_or_never(self):
        a, b = ("a", 1, "will", ""), ("b", 4, "codicil", "")
        self.assertEqual(self.stands(a, b, ("s", 3, "strike", "b")), ["a", "b"])
        self.assertEqual(self.stands(a, b, ("s", 5, "strike", "x")), ["a", "b"])
        self.assertEqual(self.stands(a, b, ("s", 5, "strike", "s")), ["a", "b"])

    def test_strikes_and_wakes_never_stand(self):
        self.assertEqual(self.stands(("s", 1, "strike", "w"), ("w", 2, "wake", "s"), ("v", 3, "wake", "w")), [])
        self.assertEqual(self.stands(("a", 0, "will", ""), ("s", 1, "strike", "a"), ("t", 2, "strike", "s")), [])
        self.assertEqual(self.stands(("a", 0, "will", ""), ("s", 1, "strike", "a"), ("w", 2, "wake", "s")), [])

    def test_wake(self):
        a, b, s = ("a", 1, "will", ""), ("b", 2, "codicil", ""), ("s", 3, "strike", "a")
        self.assertEqual(self.stands(a, b, s, ("w", 4, "wake", "a")), ["a", "b"])
        self.assertEqual(self.stands(a, b, ("c", 3, "will", ""), ("w", 4, "wake", "b")), ["b", "c"])
        self.assertEqual(self.stands(a, b, ("c", 3, "will", ""), ("w", 4, "wake", "a")), ["a", "c"])
        self.assertEqual(self.stands(a, b, s, ("w", 4, "wake", "a"), ("t", 5, "strike", "a")), ["b"])
        self.assertEqual(self.stands(a, b, ("w", 4, "wake", "b")), ["a", "b"])

    def test_wake_of_what_comes_later_or_never(self):
        a, c = ("a", 1, "will", ""), ("c", 6, "will", "")
        self.assertEqual(self.stands(a, ("w", 0, "wake", "a"), ("s", 3, "strike", "a")), [])
        self.assertEqual(self.stands(a, ("w", 5, "wake", "c"), c), ["c"])
        self.assertEqual(self.stands(a, ("w", 5, "wake", "x"), ("v", 6, "wake", "v")), ["a"])

    def test_a_will_strikes_what_was_woken(self):
        self.assertEqual(self.stands(("a", 1, "will", ""), ("s", 2, "strike", "a"), ("w", 3, "wake", "a"),
                                     ("c", 4, "will", "")), ["c"])


class TheWill(unittest.TestCase):
    def of(self, *papers):
        told = {tuple(sums(chest(*row))) for row in itertools.permutations(papers)}
        self.assertEqual(len(told), 1, papers)
        return list(told.pop())

    def test_all_clauses_by_days(self):
        self.assertEqual(self.of(("b", 2, "codicil", pays(3)), ("a", 1, "will", pays(1, 2)), ("c", 7, "codicil", "")), [1, 2, 3])
        self.assertEqual(self.of(("a", 1, "will", pays(1)), ("b", 2, "codicil", pays(2)), ("c", 3, "strike", "a")), [2])
        self.assertEqual(self.of(("b", 1, "codicil", pays(1)), ("a", 2, "will", pays(2)), ("w", 3, "wake", "b")), [1, 2])

    def test_read_near(self):
        line = "give cup to children of ann and ben if lives a and lives b or lives c"
        self.assertEqual(chest(("a", 1, "will", line)).will(), read_will(line))

    def test_drops(self):
        a = ("a", 1, "will", pays(10, 11, 12))
        for number, left in ((0, [11, 12]), (1, [10, 12]), (2, [10, 11])):
            self.assertEqual(self.of(a, ("b", 2, "codicil", f"drop a {number}")), left)
        self.assertEqual(self.of(a, ("b", 2, "codicil", text("drop a 0", pays(5), "drop a 2"))), [11, 5])
        self.assertEqual(self.of(a, ("b", 2, "codicil", text("drop a 1", "drop a 1"))), [10, 12])
        self.assertEqual(self.of(a, ("b", 2, "codicil", "drop a 0"), ("c", 3, "codicil", "drop a 1")), [12])

    def test_drops_of_no_clause(self):
        a = ("a", 1, "will", pays(10, 11))
        for drop in ("drop a 2", "drop x 0", "drop a 99999999999999999999", "drop a " + "9" * 3000):
            self.assertEqual(self.of(a, ("b", 2, "codicil", drop)), [10, 11])

    def test_drops_of_a_greater_day_and_of_its_own(self):
        self.assertEqual(self.of(("a", 3, "codicil", pays(10, 11)), ("b", 2, "will", "drop a 0")), [10, 11])
        self.assertEqual(self.of(("a", 3, "will", text(pays(10, 11), "drop a 0"))), [10, 11])

    def test_drops_are_not_counted(self):
        a = ("a", 1, "will", text("drop x 0", pays(10), "drop x 1", pays(11)))
        self.assertEqual(self.of(a, ("b", 2, "codicil", "drop a 0")), [11])
        self.assertEqual(self.of(a, ("b", 2, "codicil", "drop a 1")), [10])
        self.assertEqual(self.of(a, ("b", 2, "codicil", "drop a 2")), [10, 11])

    def test_numbers_stay_when_others_are_dropped(self):
        a = ("a", 1, "will", pays(10, 11, 12))
        self.assertEqual(self.of(a, ("b", 2, "codicil", "drop a 0"), ("c", 3, "codicil", "drop a 0")), [11, 12])

    def test_drops_of_papers_that_do_not_stand(self):
        a, b = ("a", 1, "will", pays(10, 11)), ("b", 2, "codicil", text("drop a 0", pays(5)))
        self.assertEqual(self.of(a, b), [11, 5])
        self.assertEqual(self.of(a, b, ("s", 3, "strike", "b")), [10, 11])
        self.assertEqual(self.of(a, b, ("s", 3, "strike", "b"), ("w", 4, "wake", "b")), [11, 5])
        self.assertEqual(self.of(a, b, ("s", 3, "strike", "a")), [5])
        self.assertEqual(self.of(a, b, ("c", 3, "will", pays(7)), ("w", 4, "wake", "a")), [10, 11, 7])

    def test_a_will_drops_of_a_woken_one(self):
        self.assertEqual(self.of(("a", 1, "will", pays(10, 11)), ("b", 2, "will", text("drop a 1", pays(5))),
                                 ("w", 3, "wake", "a")), [10, 5])

    def test_more_than_sixteen(self):
        one = chest(("a", 1, "will", pays(*range(16))))
        self.assertEqual(len(one.will()), 16)
        one.put("b", 2, "codicil", pays(20, 21))
        for turn in range(2):
            with self.assertRaises(TooMany) as caught:
                one.will()
            self.assertEqual(caught.exception.many, 18)
        self.assertEqual(one.standing(), ["a", "b"])
        one.put("c", 3, "codicil", "drop a 0\ndrop b 1")
        self.assertEqual(sums(one), [*range(1, 16), 20])
        one.put("d", 4, "codicil", pays(30))
        with self.assertRaises(TooMany) as caught:
            one.will()
        self.assertEqual(caught.exception.many, 17)


def any_paper(dice, label, day):
    word = dice.choice(("will", "codicil", "codicil", "codicil", "strike", "wake"))
    if word in ("strike", "wake"):
        return (label, day, word, dice.choice("abcdefgh"))
    lines = [f"pay {dice.randint(0, 99)} to ann" if dice.random() < 0.6
             else f"drop {dice.choice('abcdefgh')} {dice.randint(0, 2)}" for line in range(dice.randint(0, 4))]
    return (label, day, word, text(*lines))


def will_once_more(papers):
    """The labels that stand, and the lines of their will, reckoned by days."""
    papers = sorted(papers, key=lambda paper: paper[1])
    stands = dict.fromkeys([paper[0] for paper in papers], False)
    for label, day, word, body in papers:
        if word == "will":
            stands = dict.fromkeys(stands, False)
        if word in ("will", "codicil"):
            stands[label] = True
        for other, its_day, its_word, its_body in papers:
            if word in ("strike", "wake") and other == body and its_day < day and its_word in ("will", "codicil"):
                stands[other] = word == "wake"
    lines = {}
    for label, day, word, body in papers:
        if stands[label]:
            for line in [line for line in body.split("\n") if line.startswith("drop")]:
                name, number = line.split(" ")[1:]
                if (name, int(number)) in lines:
                    lines[name, int(number)] = None
            kept = [line for line in body.split("\n") if line.startswith("pay")]
            lines.update({(label, number): line for number, line in enumerate(kept)})
    return [label for label in stands if stands[label]], [line for line in lines.values() if line]


class Drawn(unittest.TestCase):
    def test_in_whatever_order(self):
        dice = random.Random(22)
        for turn in range(400):
            days = dice.sample(range(-9, 10), dice.randint(1, 8))
            papers = [any_paper(dice, label, day) for label, day in zip("abcdefgh", days)]
            labels, lines = will_once_more(papers)
            for order in range(3):
                dice.shuffle(papers)
                one = chest(*papers)
                self.assertEqual(one.standing(), labels)
                self.assertEqual(one.labels(), [paper[0] for paper in sorted(papers, key=lambda paper: paper[1])])
                if len(lines) > 16:
                    with self.assertRaises(TooMany) as caught:
                        one.will()
                    self.assertEqual(caught.exception.many, len(lines))
                else:
                    self.assertEqual(str(one.will()), "\n".join(lines))


if __name__ == "__main__":
    unittest.main()
