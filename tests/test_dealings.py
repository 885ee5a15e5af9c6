"""Point [17]: what a Dealing tells."""

import random
import unittest

from tests.chance import any_house, any_story, any_will
from tests.things import ANY_KIND, NO_NAMES
from willdealt.dealing import deal
from willdealt.dealings import Dealing
from willdealt.errors import NoName
from willdealt.houses import House
from willdealt.stories import Story
from willdealt.storytexts import read_story
from willdealt.willtexts import read_will

PEOPLE = (("ann", None), ("ben", "ann"), ("cat", "ann"), ("dan", None))
GOODS = (("ring", "gold", 50), ("cup", "gold", 30), ("bed", "wood", 20), ("coin", "gold", 7), ("pot", "tin", 9))
LINES = (
    "rest 1 to dan", "give all gold to ben and ann", "give cup to ann and dan", "pay 0 to cat",
    "pay 10 to cat and dan", "rest 2 to ann", "give bed to ben",
)


def told(*lines, story="none", house=None):
    one = House(PEOPLE, GOODS, 40, 15) if house is None else house
    return deal(one, read_will("\n".join(lines)), read_story(story))


def usual():
    return told(*LINES)


def name_and_net(name, net):
    return (net, name)


class Rows(unittest.TestCase):
    def test_order_and_parts(self):
        self.assertEqual(usual().rows(), (
            ("kind", 1, "ben", "ring", 50, 0),
            ("sold", 2, "ann", "cup", 15, 0), ("sold", 2, "dan", "cup", 15, 0),
            ("give", 6, "ben", "bed", 20, 0),
            ("kind", 1, "ann", "coin", 7, 0),
            ("pay", 3, "cat", None, 0, 0),
            ("pay", 4, "cat", None, 5, 0), ("pay", 4, "dan", None, 5, 0),
            ("rest", 0, "dan", None, 8, 0),
            ("rest", 5, "ann", None, 16, 0),
        ))

    def test_a_tuple_of_tuples(self):
        self.assertIs(type(usual().rows()), tuple)
        self.assertEqual({type(row) for row in usual().rows()}, {tuple})

    def test_owes(self):
        house = House(PEOPLE, GOODS, 0, 150)
        self.assertEqual(told(*LINES, house=house).rows(), (
            ("kind", 1, "ben", "ring", 50, 50),
            ("sold", 2, "ann", "cup", 0, 0), ("sold", 2, "dan", "cup", 0, 0),
            ("give", 6, "ben", "bed", 20, 20),
            ("kind", 1, "ann", "coin", 7, 7),
            ("pay", 3, "cat", None, 0, 0),
            ("pay", 4, "cat", None, 0, 0), ("pay", 4, "dan", None, 0, 0),
            ("rest", 0, "dan", None, 0, 0), ("rest", 5, "ann", None, 0, 0),
        ))

    def test_the_crowns(self):
        self.assertEqual(told().rows(), (("crown", None, "crown", None, 141, 0),))
        self.assertEqual(told(house=House(PEOPLE)).rows(), (("crown", None, "crown", None, 0, 0),))
        self.assertEqual(told("pay 0 to ann", house=House(PEOPLE)).rows()[-1], ("crown", None, "crown", None, 0, 0))
        self.assertEqual([row for row in told("rest 1 to ann").rows() if row[0] == "crown"], [])


class Names(unittest.TestCase):
    def test_holds(self):
        self.assertEqual([usual().holds(name) for name in ("ann", "ben", "cat", "dan", "crown")], [
            ("coin",), ("bed", "ring"), (), (), ()])
        self.assertEqual(told("give all gold to ann").holds(name="ann"), ("coin", "cup", "ring"))
        self.assertEqual(usual().holds("zed"), ())

    def test_net(self):
        self.assertEqual([usual().net(name) for name in ("ann", "ben", "cat", "dan", "crown")], [38, 70, 5, 28, 0])
        self.assertEqual(usual().net("zed"), 0)
        self.assertEqual(told("pay 3 to cat").net(name="crown"), 138)

    def test_net_is_less_what_is_owed(self):
        one = told("give ring to ann", "ranks names rest kinds sums", house=House(PEOPLE, GOODS, 0, 20))
        self.assertEqual((one.net("ann"), one.holds("ann"), one.net("crown")), (30, ("ring",), 66))

    def test_no_names(self):
        for deed in (usual().holds, usual().net):
            for thing in (*ANY_KIND, *NO_NAMES, 0, 5):
                if isinstance(thing, str) and thing == "crown":
                    continue
                with self.assertRaises(NoName, msg=repr(thing)) as caught:
                    deed(thing)
                self.assertIs(caught.exception.thing, thing)

    def test_takers(self):
        self.assertEqual(usual().takers(), ("ann", "ben", "cat", "dan"))
        self.assertEqual(told("pay 0 to cat", "rest 1 to dan").takers(), ("dan",))
        self.assertEqual(told("rest 1 to ben and ann", "pay 1 to dan").takers(), ("ann", "ben", "dan"))
        self.assertEqual(told("pay 1 to dan").takers(), ("crown", "dan"))

    def test_takers_who_hold_what_brings_nothing(self):
        house = House(PEOPLE, (("cup", "gold", 0), ("pot", "tin", 5)), 0, 5)
        one = told("give cup to dan", "give pot to ann", house=house)
        self.assertEqual((one.takers(), one.net("dan"), one.net("ann")), (("ann", "dan"), 0, 0))

    def test_takers_none(self):
        self.assertEqual(told("pay 5 to ann", house=House(PEOPLE)).takers(), ())
        self.assertEqual(told(house=House(PEOPLE)).takers(), ())
        one = told("give pot to ann and dan", house=House(PEOPLE, (("pot", "tin", 0),)))
        self.assertEqual(one.takers(), ())

    def test_each(self):
        self.assertEqual(usual().each(name_and_net), [(38, "ann"), (70, "ben"), (5, "cat"), (28, "dan")])
        self.assertEqual(usual().each(deed=lambda name, net: f"{name}{net}"), ["ann38", "ben70", "cat5", "dan28"])
        self.assertEqual(told(house=House(PEOPLE)).each(name_and_net), [])
        self.assertEqual(told("pay 1 to dan").each(name_and_net), [(140, "crown"), (1, "dan")])

    def test_each_tells_a_new_list(self):
        one = usual()
        first = one.each(name_and_net)
        first.clear()
        self.assertEqual(len(one.each(name_and_net)), 4)
        self.assertIs(type(first), list)

    def test_debts(self):
        self.assertEqual((usual().paid(), usual().unpaid()), (15, 0))
        one = told(house=House(PEOPLE, (("pot", "tin", 5),), 3, 10))
        self.assertEqual((one.paid(), one.unpaid()), (8, 2))


class Fallen(unittest.TestCase):
    def fallen(self, *lines, story="none"):
        return told(*lines, story=story).fallen()

    def test_nothing(self):
        self.assertEqual(usual().fallen(), ())
        self.assertEqual(self.fallen(), ())
        self.assertIs(type(self.fallen()), tuple)

    def test_none(self):
        self.assertEqual(self.fallen("pay 1 to ann", "give all lead to ann"), ((1, "none"),))

    def test_if(self):
        cond = "if not lives ann"
        self.assertEqual(self.fallen(f"give cup to ben {cond}", f"give all gold to ben {cond}", f"pay 1 to ben {cond}",
                                     f"rest 1 to ben {cond}"), ((0, "if"), (1, "if"), (2, "if"), (3, "if")))
        self.assertEqual(self.fallen(f"pay 1 to ben {cond}", story="ann 0"), ())

    def test_want(self):
        self.assertEqual(
            self.fallen("give cup to ann", "give all gold to ann", "pay 1 to ann", "rest 1 to ann", story="ann -4"),
            ((0, "want"), (1, "want"), (2, "want"), (3, "want")))
        self.assertEqual(self.fallen("pay 1 to children of dan"), ((0, "want"),))

    def test_later_gives(self):
        lines = ("give cup to ann", "give cup to ben", "give cup to cat")
        self.assertEqual(self.fallen(*lines), ((0, "later"), (1, "later")))
        self.assertEqual(self.fallen(*lines, story="cat 0"), ((0, "later"), (2, "want")))
        self.assertEqual(self.fallen(*lines, story="ben 0, cat 0"), ((1, "want"), (2, "want")))

    def test_later_kinds(self):
        self.assertEqual(self.fallen("give all gold to ann", "give all gold to ben"), ((0, "later"),))
        self.assertEqual(self.fallen("give all gold to ann", "give all gold to ben", story="ben 0"), ((1, "want"),))
        gives = ("give cup to ann", "give ring to ann and dan", "give coin to ben")
        self.assertEqual(self.fallen(*gives, "give all gold to ann"), ((3, "later"),))
        self.assertEqual(self.fallen("give all gold to ann", *gives), ((0, "later"),))
        self.assertEqual(self.fallen(*gives[:2], "give all gold to ann"), ())
        self.assertEqual(self.fallen(*gives, "give all gold to ann", story="ben 0"), ((2, "want"),))

    def test_a_kind_whose_taker_gets_no_turn_does_something(self):
        self.assertEqual(self.fallen("give all wood to ann and ben"), ())

    def test_later_ranks_and_waits(self):
        ranks = "ranks rest kinds sums names"
        self.assertEqual(self.fallen("wait 3", ranks), ())
        self.assertEqual(self.fallen("wait 3", ranks, "wait 3", ranks, "wait 0"), ((0, "later"), (1, "later"), (2, "later")))

    def test_the_first_reason_counts(self):
        self.assertEqual(self.fallen("give all lead to ann if not lives ben", "give all lead to ann", story="ann 0"),
                         ((0, "none"), (1, "none")))
        self.assertEqual(self.fallen("give all lead to ben", "give all lead to ben"), ((0, "none"), (1, "none")))
        self.assertEqual(self.fallen("give cup to ann if lives ann", "give cup to ben", story="ann 0"), ((0, "if"),))
        self.assertEqual(self.fallen("give cup to ann", "give cup to ben", story="ann 0"), ((0, "want"),))
        self.assertEqual(self.fallen("pay 1 to ann if lives ann", story="ann 0"), ((0, "if"),))

    def test_pays_and_rests_that_go_are_not_fallen(self):
        one = told("pay 0 to ann", "pay 9 to ann", "rest 1 to ben", house=House(PEOPLE, (), 0, 50))
        self.assertEqual((one.fallen(), one.takers()), ((), ()))


class Written(unittest.TestCase):
    def test_len_and_repr(self):
        self.assertEqual((len(usual()), repr(usual())), (4, "Dealing(4)"))
        self.assertEqual((len(told(house=House(PEOPLE))), repr(told(house=House(PEOPLE)))), (0, "Dealing(0)"))

    def test_str(self):
        self.assertEqual(str(usual()), "ann: coin, 38\nben: bed, ring, 70\ncat: 5\ndan: 28")
        self.assertEqual(str(told("give cup to dan")), "crown: 111\ndan: cup, 30")
        self.assertEqual(str(told(house=House(PEOPLE))), "nothing")
        house = House(PEOPLE, (("cup", "gold", 0),))
        self.assertEqual(str(told("give cup to dan", house=house)), "dan: cup, 0")


class Alike(unittest.TestCase):
    def test_by_another_clause(self):
        one = told("give cup to ann", "rest 1 to ben")
        for other in (told("give all gold to dan if not lives ann", "give cup to ann", "rest 9 to ben"),
                      told("rest 1 to ben", "wait 3", "give cup to ann"),
                      told("give cup to ann", "rest 1 to ben", story="dan 3")):
            self.assertTrue(one == other)
            self.assertFalse(one != other)

    def test_other_takers_things_nets(self):
        one = told("give cup to ann", "rest 1 to ben")
        for other in (told("give cup to dan", "rest 1 to ben"), told("give pot to ann", "rest 1 to ben"),
                      told("give cup to ann", "rest 1 to ben", "pay 1 to dan"), told("give cup to ann")):
            self.assertFalse(one == other)
            self.assertTrue(one != other)

    def test_the_same_nets_but_other_things(self):
        house = House(PEOPLE, (("cup", "gold", 5), ("pot", "tin", 5)))
        one = told("give cup to ann", "give pot to ben", house=house)
        other = told("give pot to ann", "give cup to ben", house=house)
        self.assertEqual(one.each(name_and_net), other.each(name_and_net))
        self.assertFalse(one == other)

    def test_held_or_sold(self):
        house = House(PEOPLE, (("cup", "gold", 5),))
        one, other = told("give cup to ann", house=house), told("rest 1 to ann", house=house)
        self.assertEqual(one.net("ann"), other.net("ann"))
        self.assertFalse(one == other)

    def test_unpaid_alone(self):
        one, other = told(house=House(PEOPLE, (), 0, 5)), told(house=House(PEOPLE, (), 0, 6))
        self.assertEqual((one.takers(), other.takers()), ((), ()))
        self.assertFalse(one == other)
        self.assertTrue(one == told(house=House(PEOPLE, (), 0, 5)))

    def test_paid_does_not_count(self):
        self.assertTrue(told(house=House(PEOPLE, (), 9, 4)) == told(house=House(PEOPLE, (), 8, 3)))

    def test_things_of_other_kinds(self):
        for thing in (*ANY_KIND, str(usual()), usual().rows(), Story()):
            self.assertIs(usual() == thing, False)
            self.assertIs(usual() != thing, True)

    def test_drawn(self):
        dice = random.Random(17)
        for turn in range(300):
            house = any_house(dice, 3, 3)
            one, other = [deal(house, any_will(dice, house, 2), any_story(dice, house)) for side in range(2)]
            lots = [([(name, each.holds(name), each.net(name)) for name in each.takers()], each.unpaid())
                    for each in (one, other)]
            self.assertIs(one == other, lots[0] == lots[1])
            self.assertEqual(one == other, str(one) == str(other) and one.unpaid() == other.unpaid())


class WhatIsTold(unittest.TestCase):
    def test_of_drawn_dealings(self):
        dice = random.Random(171)
        for turn in range(300):
            house = any_house(dice)
            one = deal(house, any_will(dice, house), any_story(dice, house))
            self.assertIs(type(one), Dealing)
            names = sorted((*house.people(), "crown"))
            nets = {name: sum(row[4] - row[5] for row in one.rows() if row[2] == name) for name in names}
            held = {name: tuple(sorted(row[3] for row in one.rows() if row[2] == name and row[0] in ("give", "kind")))
                    for name in names}
            takers = tuple(name for name in names if nets[name] or held[name])
            self.assertEqual([one.net(name) for name in names], [nets[name] for name in names])
            self.assertEqual([one.holds(name) for name in names], [held[name] for name in names])
            self.assertEqual((one.takers(), len(one)), (takers, len(takers)))
            self.assertEqual(one.each(name_and_net), [(nets[name], name) for name in takers])
            lines = [f"{name}: " + "".join(thing + ", " for thing in held[name]) + str(nets[name]) for name in takers]
            self.assertEqual(str(one), "\n".join(lines) or "nothing")

    def test_asked_again(self):
        one = usual()
        before = (one.rows(), one.takers(), one.fallen(), str(one))
        with self.assertRaises(NoName):
            one.net("Ann")
        one.each(name_and_net).append(3)
        self.assertEqual((one.rows(), one.takers(), one.fallen(), str(one)), before)


if __name__ == "__main__":
    unittest.main()
