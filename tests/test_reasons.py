"""Point [18]: which clauses were looked at for a thing."""

import random
import unittest

from tests.chance import any_house, any_story, any_will
from tests.reckoned import reckoned
from tests.things import ANY_KIND
from willdealt.errors import NoPerson, NoThing
from willdealt.houses import House
from willdealt.dealing import deal
from willdealt.reasons import why
from willdealt.stories import Story
from willdealt.storytexts import read_story
from willdealt.willtexts import read_will

PEOPLE = (("ann", None), ("ben", "ann"), ("cat", "ann"), ("dan", None))
HOUSE = House(PEOPLE, (("cup", "gold", 30), ("bed", "wood", 20), ("ring", "gold", 50)))


def told(thing, *lines, story="none"):
    return why(HOUSE, read_will("\n".join(lines)), read_story(story), thing)


class Why(unittest.TestCase):
    def test_nothing_gives_it(self):
        self.assertEqual(told("cup"), ((None, "rest"),))
        self.assertEqual(told("cup", "rest 1 to ann", "give bed to ann", "pay 3 to ann", "give all wood to ann"),
                         ((None, "rest"),))

    def test_a_give(self):
        self.assertEqual(told("cup", "rest 1 to ann", "give cup to ann"), ((1, "gives"),))
        self.assertEqual(told("cup", "give cup to ann and dan"), ((0, "gives"),))

    def test_if_and_want(self):
        line = "give cup to ann if lives ben"
        self.assertEqual(told("cup", line, story="ben 0"), ((0, "if"), (None, "rest")))
        self.assertEqual(told("cup", line, story="ann 0"), ((0, "want"), (None, "rest")))
        self.assertEqual(told("cup", line, story="ann 0, ben 0"), ((0, "if"), (None, "rest")))

    def test_the_last_first_up_to_the_one_that_gives(self):
        lines = ("give cup to ann", "give cup to ben", "give cup to cat if not lives dan", "give cup to dan")
        self.assertEqual(told("cup", *lines), ((3, "gives"),))
        self.assertEqual(told("cup", *lines, story="dan 0"), ((3, "want"), (2, "gives")))
        self.assertEqual(told("cup", *lines, story="cat 0, dan 0"), ((3, "want"), (2, "want"), (1, "gives")))
        self.assertEqual(told("cup", *lines[:3], story="ben 0"), ((2, "if"), (1, "want"), (0, "gives")))

    def test_gives_ahead_of_kinds(self):
        lines = ("give cup to ann", "give all gold to ben", "give all gold to cat", "give all wood to dan")
        self.assertEqual(told("cup", *lines), ((0, "gives"),))
        self.assertEqual(told("cup", *lines, story="ann 0"), ((0, "want"), (2, "gives")))
        self.assertEqual(told("cup", *lines, story="ann 0, cat 0"), ((0, "want"), (2, "want"), (1, "gives")))
        self.assertEqual(told("cup", *lines, story="ann 0, ben 0, cat 0"),
                         ((0, "want"), (2, "want"), (1, "want"), (None, "rest")))
        self.assertEqual(told("ring", *lines), ((2, "gives"),))
        self.assertEqual(told("bed", *lines), ((3, "gives"),))

    def test_the_last_wait_counts(self):
        self.assertEqual(told("cup", "give cup to ann", "wait 5", story="ann 5"), ((0, "want"), (None, "rest")))
        self.assertEqual(told("cup", "give cup to ann", "wait 5", story="ann 6"), ((0, "gives"),))

    def test_by_name_and_kind_of_answer(self):
        answer = why(thing="cup", story=Story(), will=read_will("give cup to ann"), house=HOUSE)
        self.assertEqual(answer, ((0, "gives"),))
        self.assertEqual((type(answer), type(answer[0])), (tuple, tuple))


class Refused(unittest.TestCase):
    def refused(self, refusal, thing, *lines):
        with self.assertRaises(refusal, msg=repr(thing)) as caught:
            told(thing, *lines)
        self.assertIs(type(caught.exception), refusal)
        return caught.exception.name

    def test_no_thing(self):
        for thing in ("pot", "gold", "ann", 0, *ANY_KIND):
            self.assertIs(self.refused(NoThing, thing, "give cup to ann"), thing)

    def test_as_deal_ahead(self):
        for thing in ("cup", "pot", None):
            self.assertEqual(self.refused(NoPerson, thing, "pay 1 to zed"), "zed")
            self.assertEqual(self.refused(NoThing, thing, "give pan to zed"), "pan")
            self.assertEqual(self.refused(NoPerson, thing, "give cup to ann if lives zed", "give pan to ann"), "zed")


class Drawn(unittest.TestCase):
    def test_as_reckoned_once_more(self):
        dice = random.Random(18)
        for turn in range(400):
            house = any_house(dice, 4)
            will, story = any_will(dice, house, 12), any_story(dice, house)
            wanted = reckoned(house, will, story)
            rows = deal(house, will, story).rows()
            for thing in house.goods():
                answer = why(house, will, story, thing)
                self.assertEqual(answer, wanted.why[thing])
                numbers = {row[1] for row in rows if row[3] == thing}
                self.assertEqual(numbers, {answer[-1][0]} - {None})


if __name__ == "__main__":
    unittest.main()
