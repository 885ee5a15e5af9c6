"""Points [1] to [5]: what is promised over the whole program, with all modules together."""

import importlib
import inspect
import pathlib
import random
import unittest

from tests.chance import any_house, any_story, any_will
from willdealt import errors
from willdealt.beside import by_readings, disputed, gains, parting
from willdealt.cases import case_of, cases, hours
from willdealt.chances import doing, might
from willdealt.chests import Chest
from willdealt.dealing import deal
from willdealt.desk import Desk
from willdealt.housetexts import read_house, show_house
from willdealt.readings import readings, spots
from willdealt.reasons import why
from willdealt.stories import Story
from willdealt.storytexts import read_story
from willdealt.willtexts import read_will, show_will

FUNCTIONS = {
    "names": ("is_name(thing)",), "pennies": ("parted(amount, shares)",),
    "housetexts": ("read_house(text)", "show_house(house)"), "storytexts": ("read_story(text)",),
    "conds": ("is_cond(thing)", "comes(house, cond, story, wait=0)"),
    "whoms": ("is_whom(thing)", "takers(house, whom, story, wait=0)"), "wills": ("is_clause(thing)",),
    "willtexts": ("read_will(text, reading='near')", "show_will(will)"),
    "readings": ("spots(text)", "readings(text)"), "dealing": ("deal(house, will, story)",),
    "reasons": ("why(house, will, story, thing)",),
    "cases": ("hours(will)", "cases(house, will)", "case_of(house, will, story)"),
    "chances": ("doing(house, will)", "might(house, will)"),
    "beside": ("gains(one, other)", "parting(house, one, other)", "by_readings(house, text, story)",
               "disputed(house, text, story)"),
}
CLASSES = {
    ("houses", "House"): (
        "__init__(self, people, goods=None, purse=0, debts=0)", "people(self)", "children(self, name)", "parent(self, name)",
        "goods(self, kind=None, key=None)", "kind(self, thing)", "worth(self, thing)", "__len__(self)",
        "__eq__(self, other)", "__str__(self)", "__repr__(self)"),
    ("stories", "Story"): (
        "__init__(self, deaths=None)", "died(self, name)", "lives(self, name, more=0)", "__len__(self)",
        "__eq__(self, other)", "__str__(self)", "__repr__(self)"),
    ("wills", "Will"): (
        "__init__(self, clauses=None)", "clauses(self)", "plus(self, other)", "__len__(self)", "__eq__(self, other)",
        "__str__(self)", "__repr__(self)"),
    ("dealings", "Dealing"): (
        "rows(self)", "holds(self, name)", "net(self, name)", "takers(self)", "paid(self)", "unpaid(self)",
        "each(self, deed)", "fallen(self)", "__len__(self)", "__eq__(self, other)", "__str__(self)", "__repr__(self)"),
    ("chests", "Chest"): (
        "__init__(self)", "put(self, label, day, word, body)", "undo(self)", "labels(self)", "told(self, label)",
        "standing(self)", "will(self)", "__len__(self)"),
    ("desk", "Desk"): ("__init__(self, house)", "say(self, row)"),
}


def module(name):
    return importlib.import_module("willdealt." + name)


class Interface(unittest.TestCase):
    def test_functions(self):
        for name, wanted in FUNCTIONS.items():
            for form in wanted:
                deed = getattr(module(name), form.partition("(")[0])
                self.assertEqual(deed.__name__ + str(inspect.signature(deed)), form)
                self.assertEqual(deed.__module__, "willdealt." + name)

    def test_methods_stand_in_the_class_itself(self):
        for (name, word), wanted in CLASSES.items():
            for form in wanted:
                deed = vars(getattr(module(name), word))[form.partition("(")[0]]
                self.assertEqual(deed.__name__ + str(inspect.signature(deed)), form)

    def test_each_refusal_stands_under_its_family_alone(self):
        families = (errors.WordError, errors.LostError, errors.RoomError)
        for name, one in inspect.getmembers(errors, inspect.isclass):
            if one not in families:
                self.assertEqual(one.__bases__, tuple(family for family in families if issubclass(one, family)))

    def test_no_other_module_has_refusals(self):
        for path in sorted((pathlib.Path(__file__).resolve().parent.parent / "willdealt").glob("*.py")):
            if path.stem not in ("errors", "__init__"):
                for name, one in inspect.getmembers(module(path.stem), inspect.isclass):
                    self.assertTrue(one.__module__ == "willdealt.errors" or not issubclass(one, BaseException), one)


def drawn(seed, many, most_people=4, most=7, days=(-1, 1)):
    """Houses, wills and stories by chance, with the dice."""
    dice = random.Random(seed)
    for turn in range(many):
        house = any_house(dice, most_people)
        yield dice, house, any_will(dice, house, most, days), any_story(dice, house)


class Promise(unittest.TestCase):
    def test_each_thing_once_and_each_penny(self):
        for dice, house, will, story in drawn(3, 500, 8, 12, (-1, 0, 2)):
            one = deal(house, will, story)
            names = (*house.people(), "crown")
            worths = sum(house.worth(thing) for thing in house.goods())
            self.assertEqual(sum(one.net(name) for name in names) + one.paid(), house.purse + worths)
            ways = {thing: set() for thing in house.goods()}
            for word, number, taker, thing, gets, owes in one.rows():
                self.assertTrue(0 <= owes <= gets)
                if thing is not None:
                    ways[thing].add((word, number) if word == "sold" else (word, number, taker))
            for thing, told in ways.items():
                last = why(house, will, story, thing)[-1]
                self.assertEqual([way[1] for way in told] or [None], [last[0]])
                self.assertEqual(sum(thing in one.holds(name) for name in names),
                                 len([way for way in told if way[0] != "sold"]))

    def test_each_gift_goes_by_the_told_clauses_or_has_a_reason(self):
        for dice, house, will, story in drawn(31, 300, 5, 12):
            one = deal(house, will, story)
            going = {row[1] for row in one.rows()}
            fallen = dict(one.fallen())
            for number, clause in enumerate(will.clauses()):
                if clause[0] not in ("ranks", "wait"):
                    self.assertIs(number in going, number not in fallen)

    def test_all_is_dealt_as_in_one_of_the_cases(self):
        for dice, house, will, story in drawn(32, 300):
            case = case_of(house, will, story)
            one, other = deal(house, will, story), deal(house, will, case)
            self.assertEqual((one.rows(), one.fallen(), one.unpaid()), (other.rows(), other.fallen(), other.unpaid()))
            self.assertLessEqual(len(case), len(story))
            if (len(hours(will)) + 1) ** len(house) <= 256:
                self.assertIn(case, cases(house, will))

    def test_what_each_might_have_and_what_clauses_might_do(self):
        for dice, house, will, first in drawn(33, 25, 3, 6):
            bounds = {row[0]: row for row in might(house, will)}
            doers = dict(doing(house, will))
            for turn in range(30):
                story = any_story(dice, house)
                one = deal(house, will, story)
                for name in bounds:
                    self.assertTrue(bounds[name][1] <= one.net(name) <= bounds[name][3])
                for number in doers:
                    if number not in dict(one.fallen()):
                        self.assertIsNotNone(doers[number])
                        self.assertLessEqual(len(doers[number]), len(story))

    def test_papers_in_any_order(self):
        for dice, house, will, story in drawn(34, 100, 3, 10):
            lines = str(will).split("\n") if len(will) else []
            papers = [(label, day, "codicil", "\n".join(lines[day * 3:day * 3 + 3])) for day, label in enumerate("abcde")]
            for turn in range(3):
                dice.shuffle(papers)
                chest = Chest()
                for paper in papers:
                    chest.put(*paper)
                self.assertEqual(chest.will(), will)
                self.assertEqual(deal(house, chest.will(), story), deal(house, will, story))

    def test_written_plainly_and_read_back(self):
        for dice, house, will, story in drawn(35, 300, 8, 12):
            text = show_will(will)
            if len(text) <= 4000:
                self.assertEqual((read_will(text), read_will(text, "wide"), spots(text)), (will, will, ()))
                self.assertEqual(by_readings(house, text, story), (deal(house, will, story),))
                self.assertEqual(disputed(house, text, story), ())
            self.assertEqual(read_house(show_house(house)), house)
            self.assertEqual(read_story(str(story)), story)

    def test_wills_told_to_be_alike_deal_alike(self):
        alike = 0
        for dice, house, will, first in drawn(36, 60, 2, 3):
            other = any_will(dice, house, 3, (-1, 1)) if dice.random() < 0.6 else read_will(str(will) or "wait 0")
            told = parting(house, will, other)
            alike += told is None
            for turn in range(20):
                story = any_story(dice, house)
                one, two = deal(house, will, story), deal(house, other, story)
                if one != two:
                    self.assertIsNotNone(told)
                    self.assertLessEqual(len(told[0]), len(story))
                self.assertEqual(gains(one, two), tuple([(name, -by) for name, by in gains(two, one)]))
        self.assertGreater(alike, 10)


class AskedAgain(unittest.TestCase):
    TEXT = "give cup to children of ann and ben\nrest 1 to ann if lives ann or lives ben and lives ann 4\nwait 3"

    def questions(self, house, will, story, chest, desk):
        """All questions, as deeds without arguments."""
        dealing = deal(house, will, story)
        return (
            house.people, house.goods, lambda: house.goods(key=house.worth), lambda: house.children("ann"), lambda: str(house),
            will.clauses, lambda: str(will), lambda: str(story), lambda: hours(will), lambda: cases(house, will),
            lambda: case_of(house, will, story), lambda: deal(house, will, story).rows(), dealing.rows, dealing.takers,
            dealing.fallen, lambda: dealing.each(lambda name, net: [name, net]), lambda: why(house, will, story, "cup"),
            lambda: doing(house, will), lambda: might(house, will), lambda: parting(house, will, read_will("")),
            lambda: readings(self.TEXT), lambda: spots(self.TEXT), lambda: disputed(house, self.TEXT, story),
            lambda: by_readings(house, self.TEXT, story), chest.labels, chest.standing, chest.will,
            lambda: chest.told("a"), lambda: desk.say("deal none"), lambda: desk.say("papers"), lambda: desk.say("never"),
        )

    def test_the_same_is_told_the_same(self):
        house = read_house("purse 40\ndebts 90\nperson ben\nperson ann\nperson cat of ann\nthing cup gold 30\nthing bed wood 20")
        will, story = read_will(self.TEXT), read_story("ben 2")
        chest, desk = Chest(), Desk(house)
        chest.put("b", 2, "codicil", "pay 1 to ann")
        chest.put("a", 1, "will", self.TEXT)
        desk.say("found a 1 will " + self.TEXT.replace("\n", "; "))
        asked = self.questions(house, will, story, chest, desk)
        first = [question() for question in asked]
        shown = [repr(answer) for answer in first]
        for answer in first:
            if isinstance(answer, list):
                answer.append("more")
                answer.reverse()
        dice = random.Random(5)
        for turn in range(3):
            order = list(range(len(asked)))
            dice.shuffle(order)
            for at in order:
                self.assertEqual(repr(asked[at]()), shown[at])

    def test_refusals_change_nothing(self):
        house = read_house("purse 4\ndebts 0\nperson ann")
        desk = Desk(house)
        desk.say("found a 1 will rest 1 to ann")
        for row in ("found a 2 will ", "found b 1 will ", "found b 2 will x", "deal x", "why cup none", "might zed", "undo x"):
            with self.assertRaises((errors.WordError, errors.LostError)):
                desk.say(row)
        self.assertEqual((desk.say("papers"), desk.say("deal none"), str(house)), ("a", "ann: 4", "purse 4\ndebts 0\nperson ann"))

    def test_what_was_told_may_be_handed_in(self):
        house = read_house("purse 4\ndebts 0\nperson ann\nperson ben")
        will = read_will("rest 1 to ann else ben")
        for number, story in doing(house, will):
            self.assertEqual(case_of(house, will, story), story)
        for name, least, story, most, other in might(house, will):
            self.assertEqual(deal(house, will, story).net(name), least)
        told, rows = parting(house, will, read_will("rest 1 to ben else ann"))
        self.assertEqual((told, rows), (Story(), (("ann", -4), ("ben", 4))))


if __name__ == "__main__":
    unittest.main()
