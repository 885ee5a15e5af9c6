"""Point [21]: two dealings, two wills, and the readings of one text, side by side."""

import itertools
import random
import unittest

from tests.chance import any_house, any_story, any_will
from tests.things import ANY_KIND
from willdealt.beside import by_readings, disputed, gains, parting
from willdealt.dealing import deal
from willdealt.dealings import Dealing
from willdealt.errors import NoPerson, NoText, NoThing, TooMany
from willdealt.houses import House
from willdealt.readings import readings
from willdealt.stories import Story
from willdealt.storytexts import read_story
from willdealt.willtexts import read_will

PEOPLE = (("dan", None), ("ann", None), ("ben", "ann"), ("cat", "ann"))
GOODS = (("cup", "gold", 30), ("pot", "tin", 30))
HOUSE = House(PEOPLE, GOODS, 100, 40)
EIGHT = House(tuple((name, None) for name in "abcdefgh"))
# A line with a spot, and one whose spot leaves the nets as they are.
SPOT = "pay 12 to children of ann and dan"
STILL = "pay 12 to stock of ann and dan"


def will(*lines):
    return read_will("\n".join(lines))


def dealt(*lines, story="none"):
    return deal(HOUSE, will(*lines), read_story(story))


def parted_at(one, other, house=HOUSE):
    """What parting tells of two lists of lines, its story as a text."""
    told = parting(house, will(*one), will(*other))
    return None if told is None else (str(told[0]), told[1])


class Gains(unittest.TestCase):
    def test_none(self):
        self.assertEqual(gains(dealt(), dealt()), ())
        self.assertEqual(gains(dealt("pay 3 to ann"), dealt("pay 1 to ann", "pay 2 to ann")), ())

    def test_one_and_the_crown(self):
        self.assertEqual(gains(dealt(), dealt("pay 3 to ann")), (("ann", 3), ("crown", -3)))
        self.assertEqual(gains(dealt("pay 3 to ann"), dealt()), (("ann", -3), ("crown", 3)))

    def test_several_rising(self):
        one, other = dealt("pay 9 to dan", "pay 5 to ann", "pay 1 to cat"), dealt("pay 4 to ben", "pay 2 to ann", "pay 1 to cat")
        self.assertEqual(gains(one, other), (("ann", -3), ("ben", 4), ("crown", 8), ("dan", -9)))
        self.assertEqual(gains(other, one), (("ann", 3), ("ben", -4), ("crown", -8), ("dan", 9)))

    def test_nets_alone_count(self):
        one, other = dealt("give cup to ann", "give pot to ben"), dealt("give pot to ann", "give cup to ben")
        self.assertFalse(one == other)
        self.assertEqual(gains(one, other), ())

    def test_of_two_houses(self):
        other = deal(House((("zed", None),), (), 7), will("rest 1 to zed"), Story())
        self.assertEqual(gains(dealt(), other), (("crown", -120), ("zed", 7)))

    def test_by_names(self):
        told = gains(other=dealt("pay 3 to ann"), one=dealt())
        self.assertEqual((told, type(told), type(told[0])), ((("ann", 3), ("crown", -3)), tuple, tuple))


class Parting(unittest.TestCase):
    def test_alike_in_all_stories(self):
        self.assertIsNone(parted_at([], []))
        self.assertIsNone(parted_at(["give cup to ann else dan"], ["give cup to dan", "give cup to ann"]))
        self.assertIsNone(parted_at(["pay 3 to ann"], ["pay 2 to ann", "pay 1 to ann"]))
        self.assertIsNone(parted_at(["give all tin to ann"], ["give pot to ann"]))
        self.assertIsNone(parted_at(["pay 5 to ann if lives ann 9", "wait 9"], ["wait 9", "pay 5 to ann"]))
        self.assertIsNone(parted_at(["rest 1 to ann if lives dan or not lives dan"], ["rest 7 to ann"]))

    def test_at_once(self):
        self.assertEqual(parted_at([], ["pay 3 to ann"]), ("none", (("ann", 3), ("crown", -3))))
        self.assertEqual(parted_at(["pay 3 to ann"], []), ("none", (("ann", -3), ("crown", 3))))

    def test_where_somebody_dies(self):
        self.assertEqual(parted_at(["give cup to ann else dan"], ["give cup to ann else ben"]),
                         ("ann 0", (("ben", 30), ("dan", -30))))
        self.assertEqual(parted_at(["rest 1 to ann and dan"], ["rest 1 to ann", "rest 1 to dan"]), None)
        self.assertEqual(parted_at(["rest 1 to ben else cat else ann else dan"], ["rest 1 to ben else cat else ann"]),
                         ("ann 0, ben 0, cat 0", (("crown", 120), ("dan", -120))))

    def test_by_the_hours_of_both(self):
        self.assertEqual(parted_at(["wait 9", "pay 3 to ann"], ["wait 4", "pay 3 to ann"]),
                         ("ann 9", (("ann", 3), ("crown", -3))))
        self.assertEqual(parted_at(["wait 4", "pay 3 to ann"], ["wait 9", "pay 3 to ann"]),
                         ("ann 9", (("ann", -3), ("crown", 3))))
        self.assertEqual(parted_at(["pay 3 to dan if lives ann -5"], ["pay 3 to dan"]),
                         ("ann -5", (("crown", -3), ("dan", 3))))

    def test_gains_of_nothing(self):
        self.assertEqual(parted_at(["give cup to ann", "give pot to ben"], ["give pot to ann", "give cup to ben"]),
                         ("none", ()))
        self.assertEqual(parted_at(["rest 1 to ann"], ["rest 1 to ann", "give cup to ann"]), ("none", ()))

    def test_kinds_of_answers(self):
        told = parting(other=will("pay 3 to ann"), one=will(), house=HOUSE)
        self.assertEqual([type(each) for each in (told, told[0], told[1])], [tuple, Story, tuple])

    def refused(self, refusal, house, one, other):
        with self.assertRaises(refusal) as caught:
            parting(house, will(*one), will(*other))
        self.assertIs(type(caught.exception), refusal)
        return caught.exception

    def test_strange_names(self):
        self.assertEqual(self.refused(NoThing, HOUSE, ["give pan to ann"], ["pay 1 to zed"]).name, "pan")
        self.assertEqual(self.refused(NoPerson, HOUSE, ["pay 1 to zed"], ["give pan to ann"]).name, "zed")
        self.assertEqual(self.refused(NoThing, HOUSE, ["pay 1 to ann"], ["give pan to zed"]).name, "pan")

    def test_too_many(self):
        a_or_b = "pay 1 to a if lives b 5"
        self.assertEqual(self.refused(TooMany, EIGHT, [a_or_b], [a_or_b]).many, 3 ** 8)
        self.assertEqual(self.refused(TooMany, EIGHT, ["wait 3"], ["wait 4"]).many, 3 ** 8)
        self.assertIsNone(parting(EIGHT, will("wait 3"), will("wait 3")))
        self.assertEqual(self.refused(TooMany, EIGHT, ["wait 3", a_or_b], ["wait 4"]).many, 4 ** 8)

    def test_too_many_of_both_alone(self):
        days = [f"pay 1 to ann if lives ben {day}" for day in (1, 2, 3)]
        self.assertIsNotNone(parting(HOUSE, will(*days[:2]), will(days[1])))
        self.assertEqual(self.refused(TooMany, HOUSE, days[:2], days[2:]).many, 5 ** 4)

    def test_strange_names_ahead_of_too_many(self):
        many = ["pay 1 to a if lives b 5"]
        self.assertEqual(self.refused(NoPerson, EIGHT, many, ["pay 1 to zed"]).name, "zed")
        self.assertEqual(self.refused(NoThing, EIGHT, many + ["give cup to a"], []).name, "cup")

    def test_drawn(self):
        dice = random.Random(21)
        alike = 0
        for turn in range(150):
            house = any_house(dice, 2, 2)
            one, other = [any_will(dice, house, dice.choice((1, 2, 4)), (-1, 1)) for side in range(2)]
            names = sorted(house.people())
            fewest = None
            for row in itertools.product((None, -2, -1, 0, 1, 2, 3), repeat=len(names)):
                story = Story(tuple((name, day) for name, day in zip(names, row) if day is not None))
                if deal(house, one, story) != deal(house, other, story):
                    fewest = len(story) if fewest is None else min(fewest, len(story))
            told = parting(house, one, other)
            alike += fewest is None
            if fewest is None:
                self.assertIsNone(told)
            else:
                story, rows = told
                first, second = deal(house, one, story), deal(house, other, story)
                self.assertEqual(len(story), fewest)
                self.assertNotEqual(first, second)
                self.assertEqual(rows, gains(first, second))
        self.assertGreater(alike, 5)


class ByReadings(unittest.TestCase):
    def test_no_spot(self):
        told = by_readings(HOUSE, "give cup to ann", Story())
        self.assertEqual(told, (dealt("give cup to ann"),))
        self.assertEqual((type(told), type(told[0])), (tuple, Dealing))
        self.assertEqual(disputed(HOUSE, "give cup to ann", Story()), ())
        self.assertEqual((len(by_readings(HOUSE, "", Story())), disputed(HOUSE, "", Story())), (1, ()))

    def test_one_spot(self):
        told = by_readings(HOUSE, SPOT, Story())
        self.assertEqual([str(one) for one in told], [
            "ben: 3\ncat: 3\ncrown: 108\ndan: 6", "ben: 6\ncat: 6\ncrown: 108"])
        self.assertEqual(disputed(HOUSE, SPOT, Story()), (("ben", 3, 6), ("cat", 3, 6), ("dan", 0, 6)))

    def test_a_spot_that_changes_nothing(self):
        self.assertEqual(len(by_readings(HOUSE, STILL, Story())), 2)
        self.assertEqual(disputed(HOUSE, STILL, Story()), ())

    def test_by_the_story(self):
        self.assertEqual(disputed(HOUSE, SPOT, read_story("ben 0")), (("cat", 6, 12), ("dan", 0, 6)))
        self.assertEqual(disputed(HOUSE, SPOT, read_story("dan 0")), ())

    def test_the_crown(self):
        text = "rest 1 to ann if lives ann or lives ben and lives cat"
        self.assertEqual(disputed(HOUSE, text, read_story("cat 0")), (("ann", 0, 120), ("crown", 0, 120)))

    def test_four_spots(self):
        text = "\n".join([SPOT, STILL, "pay 1 to ann if lives ann or lives ben and lives cat", SPOT])
        told = by_readings(HOUSE, text, read_story("cat 0"))
        self.assertEqual(len(told), 16)
        self.assertEqual(told, tuple(deal(HOUSE, one, read_story("cat 0")) for one in readings(text)))
        self.assertEqual(disputed(HOUSE, text, read_story("cat 0")), (
            ("ann", 6, 7), ("ben", 12, 24), ("crown", 83, 84), ("dan", 6, 18)))

    def test_by_names(self):
        self.assertEqual(by_readings(story=Story(), text=SPOT, house=HOUSE), by_readings(HOUSE, SPOT, Story()))
        self.assertEqual(disputed(story=Story(), text=SPOT, house=HOUSE), disputed(HOUSE, SPOT, Story()))

    def test_drawn(self):
        dice = random.Random(211)
        for turn in range(80):
            people = (("ann", None), ("ben", "ann"), ("cat", "ann"), ("dan", "ben"))
            house = House(people, (), 100, dice.choice((0, 150)))
            text = "\n".join([
                f"{dice.choice(('pay 20', 'rest 3'))} to {dice.choice(('children', 'stock'))} of {dice.choice(('ann', 'ben'))}"
                f" and {dice.choice(('ann', 'dan'))}" for line in range(dice.randint(1, 4))])
            story = any_story(dice, house)
            told = by_readings(house, text, story)
            self.assertEqual([str(one) for one in told], [str(deal(house, one, story)) for one in readings(text)])
            wanted = []
            for name in ("ann", "ben", "cat", "crown", "dan"):
                nets = [one.net(name) for one in told]
                if len(set(nets)) > 1:
                    wanted.append((name, min(nets), max(nets)))
            self.assertEqual(disputed(house, text, story), tuple(wanted))


class ReadingsRefused(unittest.TestCase):
    def refused(self, refusal, text):
        for deed in (by_readings, disputed):
            with self.assertRaises(refusal, msg=repr(text)) as caught:
                deed(HOUSE, text, Story())
            self.assertIs(type(caught.exception), refusal)
        return caught.exception

    def test_no_text(self):
        for thing in ANY_KIND:
            if not isinstance(thing, str):
                self.assertIsNone(self.refused(NoText, thing).line)

    def test_a_line_that_is_none(self):
        self.assertEqual(self.refused(NoText, "pay 1 to zed\npay x to ann").line, 1)
        self.assertEqual(self.refused(NoText, "\n".join([SPOT] * 5 + ["x"])).line, 5)

    def test_five_spots(self):
        self.assertEqual(self.refused(TooMany, "\n".join([SPOT] * 5)).many, 5)
        self.assertEqual(self.refused(TooMany, "\n".join(["pay 1 to zed"] + [SPOT] * 5)).many, 5)

    def test_a_choice_that_is_no_will(self):
        # Read near this is an or of two ands of four terms each, read wide an and of seven.
        four = " and ".join(["lives ann"] * 4)
        line = f"pay 1 to ann if {four} or {four}"
        self.assertEqual(len(read_will(line)), 1)
        self.assertEqual(self.refused(NoText, f"pay 1 to zed\n{line}").line, 1)
        self.assertEqual(self.refused(TooMany, "\n".join([line] * 5)).many, 5)

    def test_a_name_that_the_house_has_not(self):
        self.assertEqual(self.refused(NoPerson, "pay 1 to children of ann and zed").name, "zed")
        self.assertEqual(self.refused(NoThing, f"{SPOT}\ngive pan to zed").name, "pan")
        self.assertEqual(self.refused(NoPerson, "pay 1 to ann if lives zed or lives yak and lives ann").name, "zed")


if __name__ == "__main__":
    unittest.main()
