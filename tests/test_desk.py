"""Point [23]: the desk and its rows."""

import random
import unittest

from tests.chance import any_house, any_story, any_will
from tests.things import ANY_KIND
from willdealt.chances import doing, might
from willdealt.dealing import deal
from willdealt.desk import Desk
from willdealt.errors import (
    DayStands, LabelStands, NoName, NoPerson, NoRow, NoText, NoThing, NoUndo, NoWord, TooMany,
)
from willdealt.houses import House
from willdealt.reasons import why

PEOPLE = (("ann", None), ("ben", "ann"), ("cat", "ann"), ("dan", None))
GOODS = (("cup", "gold", 30), ("bed", "wood", 20), ("ring", "gold", 50))
WILL = "give cup to ann; give all gold to ben and cat; rest 1 to dan"
ASKING = ("papers", "standing", "will", "deal none", "never", "might ann")


def desk(*rows):
    """A desk to which rows were said that are answered with ok."""
    one = Desk(House(PEOPLE, GOODS, 100, 40))
    for row in rows:
        if one.say(row) != "ok":
            raise AssertionError(row)
    return one


def usual():
    return desk("found first -30 will " + WILL)


def seen(one):
    """All that a desk tells without a word of its own; None where it refuses."""
    told = []
    for row in ASKING:
        try:
            told.append(one.say(row))
        except TooMany:
            told.append(None)
    return told


class Rows(unittest.TestCase):
    def test_found_and_undo(self):
        one = desk()
        self.assertEqual(one.say("found a 1 will pay 1 to ann"), "ok")
        self.assertEqual(one.say("found b 2 strike a"), "ok")
        self.assertEqual((one.say("papers"), one.say("standing")), ("a b", "none"))
        self.assertEqual(one.say("undo"), "ok")
        self.assertEqual((one.say("papers"), one.say("standing")), ("a", "a"))
        self.assertEqual(one.say(row="undo"), "ok")
        self.assertEqual((one.say("papers"), one.say("standing")), ("none", "none"))

    def test_papers_and_standing_by_days(self):
        one = desk("found c 3 codicil pay 1 to ann", "found a -5 will pay 2 to ann", "found b 0 codicil pay 3 to ann",
                   "found s 9 strike b")
        self.assertEqual((one.say("papers"), one.say("standing")), ("a b c s", "a c"))

    def test_will(self):
        self.assertEqual(desk().say("will"), "none")
        self.assertEqual(desk("found a 1 will ").say("will"), "none")
        self.assertEqual(usual().say("will"), WILL)
        self.assertEqual(desk("found a 1 will rest 1 to children of ann and dan").say("will"),
                         "rest 1 to ( children of ann ) and dan")

    def test_deal(self):
        self.assertEqual(usual().say("deal none"), "ann: cup, 30; ben: ring, 50; dan: 80")
        self.assertEqual(usual().say("deal ann -5, ben 0"), "cat: cup, ring, 80; dan: 80")
        self.assertEqual(desk().say("deal none"), "crown: 160")
        self.assertEqual(Desk(House(PEOPLE)).say("deal none"), "nothing")

    def test_has(self):
        self.assertEqual([usual().say(f"has {name} none") for name in ("ann", "ben", "cat", "dan", "crown", "zed")],
                         ["30", "50", "0", "80", "0", "0"])
        self.assertEqual(usual().say("has cat ann -5, ben 0"), "80")

    def test_why(self):
        self.assertEqual(usual().say("why cup none"), "0 gives")
        self.assertEqual(usual().say("why cup ann 0"), "0 want, 1 gives")
        self.assertEqual(usual().say("why bed none"), "rest")
        self.assertEqual(usual().say("why cup ann 0, ben 0, cat 0"), "0 want, 1 want, rest")
        one = desk("found a 1 will give cup to ann if not lives dan")
        self.assertEqual(one.say("why cup none"), "0 if, rest")

    def test_never(self):
        self.assertEqual(desk().say("never"), "none")
        self.assertEqual(usual().say("never"), "none")
        one = desk("found a 1 will give cup to ann; give all lead to ann; wait 3; give cup to ann; pay 1 to children of dan")
        self.assertEqual(one.say("never"), "0 1 4")

    def test_might(self):
        self.assertEqual([usual().say(f"might {name}") for name in ("ann", "ben", "cat", "dan", "crown")],
                         ["0 to 30", "0 to 80", "0 to 80", "0 to 160", "0 to 160"])
        self.assertEqual(desk().say("might crown"), "160 to 160")

    def test_the_same_as_the_functions(self):
        dice = random.Random(23)
        for turn in range(60):
            house = any_house(dice, 3, 4)
            will, story = any_will(dice, house, 5, (0,)), any_story(dice, house)
            one = Desk(house)
            one.say("found a 1 will " + str(will).replace("\n", "; "))
            self.assertEqual(one.say("will"), str(will).replace("\n", "; ") or "none")
            self.assertEqual(one.say(f"deal {story}"), str(deal(house, will, story)).replace("\n", "; "))
            for name in (*house.people(), "crown"):
                self.assertEqual(one.say(f"has {name} {story}"), str(deal(house, will, story).net(name)))
            for thing in house.goods():
                rows = [word if number is None else f"{number} {word}" for number, word in why(house, will, story, thing)]
                self.assertEqual(one.say(f"why {thing} {story}"), ", ".join(rows))
            never = [str(number) for number, case in doing(house, will) if case is None]
            self.assertEqual(one.say("never"), " ".join(never) or "none")
            for name, least, case, most, other in might(house, will):
                self.assertEqual(one.say(f"might {name}"), f"{least} to {most}")


class LineEnds(unittest.TestCase):
    def test_in_texts_handed_in(self):
        for text in ("pay 1 to ann; rest 1 to ben", "pay 1 to ann\nrest 1 to ben"):
            self.assertEqual(desk("found a 1 will " + text).say("will"), "pay 1 to ann; rest 1 to ben")
        one = desk("found a 1 codicil pay 1 to ann\npay 2 to ann; drop b 3\npay 3 to ann")
        self.assertEqual(one.say("will"), "pay 1 to ann; pay 2 to ann; pay 3 to ann")

    def refused_at(self, text):
        with self.assertRaises(NoText, msg=text) as caught:
            desk().say("found a 1 will " + text)
        return caught.exception.line

    def test_lines_are_counted(self):
        self.assertEqual(self.refused_at("pay 1 to ann; x"), 1)
        self.assertEqual(self.refused_at("pay 1 to ann\npay 2 to ann; drop a 0; x"), 3)
        self.assertEqual(self.refused_at("pay 1 to ann; "), 1)
        self.assertEqual(self.refused_at("; pay 1 to ann"), 0)
        self.assertEqual(self.refused_at("pay 1 to ann;pay 2 to ann"), 0)
        self.assertEqual(self.refused_at("pay 1 to ann ; pay 2 to ann"), 0)
        self.assertEqual(self.refused_at("pay 1 to ann;  pay 2 to ann"), 1)
        self.assertEqual(self.refused_at("pay 1 to ann;"), 0)
        self.assertEqual(self.refused_at(" pay 1 to ann"), 0)
        self.assertEqual(self.refused_at("pay 1 to ann "), 0)

    def test_in_a_will_alone(self):
        with self.assertRaises(NoName) as caught:
            desk().say("found a 1 strike b; c")
        self.assertEqual(caught.exception.thing, "b; c")

    def test_in_a_story_they_are_none(self):
        for row in ("deal none\n", "deal \nnone", "has ann none\n", "why cup ann 1;", "deal ann 1; ben 2"):
            with self.assertRaises(NoText) as caught:
                usual().say(row)
            self.assertEqual(caught.exception.line, 0)


class NoRows(unittest.TestCase):
    def refused(self, *rows):
        one = usual()
        before = seen(one)
        for row in rows:
            with self.assertRaises(NoRow, msg=repr(row)) as caught:
                one.say(row)
            self.assertIs(type(caught.exception), NoRow)
        self.assertEqual(seen(one), before)

    def test_what_is_no_text(self):
        self.refused(*[thing for thing in ANY_KIND if not isinstance(thing, str)], 5, b"undo", ["undo"], ("undo",))

    def test_another_first_word(self):
        self.refused("", " ", "find a 1 will x", "Undo", "undone", "put a 1 will x", "labels", "told first", "net ann none",
                     "undo\n", "\nundo", "papers\n", "doing", "deals none", "gains", "x", ";", "undo;", "papers; standing",
                     "-", "0", "deal\nnone", "might\nann")

    def test_a_word_too_many_or_too_few(self):
        self.refused("undo ", "undo x", "papers ", "papers all", "standing ", "standing x", "will ", "will x", "never ",
                     "never 0", "might", "might ann ", "might ann none", "might ann ben", "might  ann", "deal", "has", "has ann",
                     "why", "why cup", "found", "found a", "found a 1", "found a 1 will", "found a 1 strike")

    def test_a_blank_ahead(self):
        self.refused(*[" " + row for row in (*ASKING, "undo", "has ann none", "why cup none", "found a 1 will x")])

    def test_a_blank_too_many_ahead_of_the_day(self):
        self.refused("found  a 1 will pay 1 to ann", "found a  1 will pay 1 to ann")

    def test_days(self):
        for day in ("", "x", "00", "01", "-0", "-01", "+1", "--1", "1.", "10000", "-10000", "9" * 2000, "-", "1x", "one",
                    "\n1", "1\n"):
            self.refused(f"found a {day} will pay 1 to ann", f"found Ann {day} willing x", f"found first {day} will x")
        for day in ("-9999", "-1", "0", "1", "9999"):
            self.assertEqual(desk().say(f"found a {day} will pay 1 to ann"), "ok")


class Refused(unittest.TestCase):
    def refused(self, refusal, row, one=None):
        one = usual() if one is None else one
        before = seen(one)
        with self.assertRaises(refusal, msg=row) as caught:
            one.say(row)
        self.assertIs(type(caught.exception), refusal, row)
        self.assertEqual(seen(one), before)
        return caught.exception

    def test_found(self):
        self.assertEqual(self.refused(NoName, "found Ann 1 willing x").thing, "Ann")
        self.assertEqual(self.refused(NoName, "found  1 will x").thing, "")
        self.assertEqual(self.refused(NoWord, "found a 1 willing x").thing, "willing")
        self.assertEqual(self.refused(NoWord, "found a 1  will x").thing, "")
        self.assertEqual(self.refused(NoText, "found first -30 will x").line, 0)
        self.assertEqual(self.refused(NoName, "found a 1 strike ").thing, "")
        self.assertEqual(self.refused(NoName, "found a 1 wake first second").thing, "first second")
        self.assertEqual(self.refused(LabelStands, "found first -30 will ").name, "first")
        self.assertEqual(self.refused(DayStands, "found a -30 will ").thing, -30)

    def test_the_thirteenth(self):
        one = desk(*[f"found {label} {day} codicil " for day, label in enumerate("abcdefghijkl")])
        self.assertEqual(self.refused(TooMany, "found m 99 will ", one).many, 13)

    def test_undo(self):
        self.refused(NoUndo, "undo", desk())

    def test_names_and_things(self):
        self.assertEqual(self.refused(NoName, "has Ann none").thing, "Ann")
        self.assertEqual(self.refused(NoName, "has  none").thing, "")
        self.assertEqual(self.refused(NoThing, "why pot none").name, "pot")
        self.assertEqual(self.refused(NoThing, "why  none").name, "")
        self.assertEqual(self.refused(NoPerson, "might zed").name, "zed")
        self.assertEqual(self.refused(NoPerson, "might Ann").name, "Ann")
        self.assertEqual(self.refused(NoPerson, "might ").name, "")
        self.assertEqual(self.refused(NoPerson, "might cup").name, "cup")

    def test_stories(self):
        for story in ("", "x", "None", "ann", "ann 01", "ben 1, ann 1", " none", "none ", "ann 1,ben 1", "ann 1, "):
            for row in (f"deal {story}", f"has ann {story}", f"has Zed {story}", f"has zed {story}", f"why cup {story}",
                        f"why pot {story}"):
                self.assertEqual(self.refused(NoText, row).line, 0)


class InOrder(unittest.TestCase):
    """A STORY ahead of all, then the chest's will, then the dealing, NAME or THING last."""

    ASKED = ("deal none", "has Zed none", "why pan none", "never", "might zed", "has ann none", "why cup none", "might ann")

    def refused(self, refusal, one, row):
        with self.assertRaises(refusal, msg=row) as caught:
            one.say(row)
        self.assertIs(type(caught.exception), refusal)
        return caught.exception

    def test_too_many_clauses(self):
        sixteen = "; ".join(["pay 1 to zed"] * 16)
        one = desk("found a 1 will " + sixteen, "found b 2 codicil pay 1 to ann")
        for row in (*self.ASKED, "will"):
            self.assertEqual(self.refused(TooMany, one, row).many, 17)
        for row in ("deal x", "has Zed x", "why pan x", "has ann ", "why cup "):
            self.assertEqual(self.refused(NoText, one, row).line, 0)
        self.assertEqual((one.say("papers"), one.say("standing"), one.say("undo")), ("a b", "a b", "ok"))
        self.assertEqual(self.refused(NoPerson, one, "deal none").name, "zed")

    def test_strange_names_in_the_will(self):
        one = desk("found a 1 will pay 1 to yak; give pot to ann")
        for row in self.ASKED:
            self.assertEqual(self.refused(NoPerson, one, row).name, "yak")
        for row in ("deal x", "has Zed x", "why pan x"):
            self.assertEqual(self.refused(NoText, one, row).line, 0)
        self.assertEqual(one.say("will"), "pay 1 to yak; give pot to ann")

    def test_too_many_cases(self):
        cond = " or ".join(f"lives ann {day}" for day in (1, 2, 3))
        one = desk(f"found a 1 will pay 1 to ann if {cond}")
        for row in ("never", "might zed", "might ann"):
            self.assertEqual(self.refused(TooMany, one, row).many, 5 ** 4)
        self.assertEqual(one.say("has ann none"), "1")
        one.say("found b 2 codicil pay 1 to yak")
        for row in ("never", "might zed", "might ann"):
            self.assertEqual(self.refused(NoPerson, one, row).name, "yak")


class Desks(unittest.TestCase):
    def test_two_by_turns(self):
        one, other = desk(), desk()
        one.say("found a 1 will rest 1 to ann")
        self.assertEqual((one.say("papers"), other.say("papers")), ("a", "none"))
        other.say("found a 1 will rest 1 to ben")
        one.say("found b 2 strike a")
        self.assertEqual((one.say("deal none"), other.say("deal none")), ("crown: 160", "ben: 160"))
        other.say("undo")
        self.assertEqual((one.say("papers"), other.say("papers")), ("a b", "none"))

    def test_the_house_is_its_own(self):
        other = Desk(house=House((("zed", None),), (), 9))
        other.say("found a 1 will rest 1 to zed")
        self.assertEqual((other.say("deal none"), other.say("might zed"), other.say("might crown")),
                         ("zed: 9", "0 to 9", "0 to 9"))

    def test_asked_again(self):
        one = usual()
        before = seen(one)
        self.assertEqual(seen(one), before)
        one.say("found b 2 strike first")
        self.assertNotEqual(seen(one), before)
        one.say("undo")
        self.assertEqual(seen(one), before)

    def test_papers_in_any_order(self):
        rows = ["found a 1 will pay 1 to ann; pay 2 to ben", "found b 2 codicil drop a 0; rest 1 to cat", "found c 3 strike x",
                "found d 4 wake b"]
        dice = random.Random(232)
        wanted = seen(desk(*rows))
        for turn in range(10):
            dice.shuffle(rows)
            self.assertEqual(seen(desk(*rows)), wanted)


if __name__ == "__main__":
    unittest.main()
