"""Point [6]: houses. (Read from texts: test_housetexts.py.)"""

import unittest

from tests.things import ANY_KIND, NO_NAMES, otherwise
from willdealt.errors import NoGoods, NoPeople, NoPerson, NoSum, NoThing
from willdealt.houses import House

PEOPLE = (("ann", None), ("ben", "ann"), ("cat", None), ("dan", "ann"), ("eve", "ben"))
GOODS = (("ring", "gold", 30), ("ann", "land", 10 ** 9), ("cup", "gold", 0), ("bed", "wood", 30))
EIGHT = tuple((name, None) for name in "abcdefgh")
EIGHT_GOODS = tuple((name, "k", 1) for name in "abcdefgh")


def house():
    return House(PEOPLE, GOODS, 7, 12)


def less_by_worth(name):
    return -house().worth(name)


class People(unittest.TestCase):
    def refused(self, people, number):
        with self.assertRaises(NoPeople, msg=repr(people)) as caught:
            House(people)
        self.assertEqual(caught.exception.number, number, people)
        self.assertIs(caught.exception.number is None, number is None)

    def test_one_to_eight(self):
        self.assertEqual(House((("ann", None),)).people(), ("ann",))
        self.assertEqual(House(EIGHT).people(), tuple("abcdefgh"))
        self.refused((), None)
        self.refused(EIGHT + (("i", None),), None)
        self.refused(EIGHT + (None,), None)

    def test_what_is_no_tuple(self):
        for thing in ANY_KIND:
            self.refused(thing, 0 if isinstance(thing, tuple) and thing else None)
        self.refused(list(PEOPLE), None)

    def test_the_first_that_is_no_person(self):
        for at, person in enumerate(PEOPLE):
            for other in otherwise(person):
                if other != (person[0], None):
                    self.refused(PEOPLE[:at] + (other,) + PEOPLE[at + 1:] + ((),), at)

    def test_a_part_fewer(self):
        self.refused((("ann", None), ("ben",)), 1)
        self.refused(((),), 0)

    def test_names(self):
        for name in NO_NAMES:
            self.refused((("x", None), (name, None)), 1)

    def test_names_unlike(self):
        self.refused((("ann", None), ("ben", None), ("ann", None)), 2)
        self.refused((("ann", None), ("ann", "ann")), 1)

    def test_parents_are_told_ahead(self):
        self.refused((("ann", "ann"),), 0)
        self.refused((("ann", None), ("ben", "cat"), ("cat", None)), 1)
        self.refused((("ann", None), ("ben", "")), 1)
        for thing in ANY_KIND:
            if thing is not None:
                self.refused((("ann", None), ("ben", thing)), 1)


class Goods(unittest.TestCase):
    def refused(self, goods, number):
        with self.assertRaises(NoGoods, msg=repr(goods)) as caught:
            House(PEOPLE, goods)
        self.assertEqual(caught.exception.number, number, goods)
        self.assertIs(caught.exception.number is None, number is None)

    def test_none_to_eight(self):
        self.assertEqual(House(PEOPLE, ()).goods(), ())
        self.assertEqual(House(PEOPLE, None).goods(), ())
        self.assertEqual(House(PEOPLE).goods(), ())
        self.assertEqual(House(PEOPLE, EIGHT_GOODS).goods(), tuple("abcdefgh"))
        self.refused(EIGHT_GOODS + (("i", "k", 1),), None)

    def test_what_is_no_tuple(self):
        for thing in ANY_KIND:
            if thing is not None and thing != ():
                self.refused(thing, 0 if isinstance(thing, tuple) else None)
        self.refused(list(GOODS), None)

    def test_the_first_that_is_no_thing(self):
        for at, good in enumerate(GOODS):
            for other in otherwise(good):
                self.refused(GOODS[:at] + (other,) + GOODS[at + 1:] + ((),), at)

    def test_names_and_kinds(self):
        for name in NO_NAMES:
            self.refused((("x", "gold", 1), (name, "gold", 1)), 1)
            self.refused((("x", "gold", 1), ("y", name, 1)), 1)

    def test_names_unlike(self):
        self.refused((("cup", "gold", 1), ("bed", "wood", 1), ("cup", "wood", 2)), 2)

    def test_worths(self):
        self.assertEqual(House(PEOPLE, (("cup", "gold", 10 ** 9),)).worth("cup"), 10 ** 9)
        self.refused((("cup", "gold", 10 ** 9 + 1),), 0)
        self.refused((("cup", "gold", -1),), 0)


class Sums(unittest.TestCase):
    def test_bounds(self):
        for amount in (0, 1, 10 ** 9):
            self.assertEqual(House(PEOPLE, None, amount).purse, amount)
            self.assertEqual(House(PEOPLE, None, 0, amount).debts, amount)

    def test_refused(self):
        for amount in (-1, 10 ** 9 + 1, *ANY_KIND):
            for sums in ((amount,), (0, amount), (amount, None)):
                with self.assertRaises(NoSum, msg=repr(sums)) as caught:
                    House(PEOPLE, (), *sums)
                self.assertIs(caught.exception.thing, amount)

    def test_left_out(self):
        self.assertEqual((House(PEOPLE).purse, House(PEOPLE).debts), (0, 0))


class Refusals(unittest.TestCase):
    def test_of_two_faults_the_first(self):
        people, goods = (("Ann", None),), (("cup", "gold", True),)
        for refusal, thing, parts in (
            (NoPeople, 0, (people, goods)), (NoPeople, 0, (people, None, True)), (NoPeople, 0, (people, None, 0, True)),
            (NoGoods, 0, (PEOPLE, goods, True)), (NoGoods, 0, (PEOPLE, goods, 0, True)), (NoSum, True, (PEOPLE, (), True, -1)),
            (NoPeople, 1, (PEOPLE[:1] + people + PEOPLE[:1],)), (NoGoods, 1, (PEOPLE, GOODS[:1] + goods + GOODS[:1])),
        ):
            with self.assertRaises(refusal) as caught:
                House(*parts)
            self.assertEqual(vars(caught.exception), {"thing" if refusal is NoSum else "number": thing})

    def test_from_the_left(self):
        with self.assertRaises(NoPeople):
            House((), [], -1, -1)
        with self.assertRaises(NoGoods):
            House(PEOPLE, [], -1, -1)
        with self.assertRaises(NoSum) as caught:
            House(PEOPLE, (), -1, -2)
        self.assertEqual(caught.exception.thing, -1)

    def test_by_name_too(self):
        with self.assertRaises(NoPeople):
            House(debts=-1, purse=-1, goods=[], people=())
        self.assertEqual(House(debts=2, purse=1, goods=GOODS, people=PEOPLE), House(PEOPLE, GOODS, 1, 2))


class WhatIsTold(unittest.TestCase):
    def test_people(self):
        self.assertEqual(house().people(), ("ann", "ben", "cat", "dan", "eve"))
        self.assertEqual(house().children("ann"), ("ben", "dan"))
        self.assertEqual(house().children("ben"), ("eve",))
        self.assertEqual(house().children("eve"), ())
        self.assertEqual(house().children(name="cat"), ())
        self.assertEqual([house().parent(name) for name in house().people()], [None, "ann", None, "ann", "ben"])
        self.assertEqual(house().parent(name="eve"), "ben")

    def test_strange_people(self):
        for name in ("zed", "ring", *ANY_KIND):
            for deed in (house().children, house().parent):
                with self.assertRaises(NoPerson, msg=repr(name)) as caught:
                    deed(name)
                self.assertIs(caught.exception.name, name)

    def test_things(self):
        self.assertEqual(house().goods(), ("ring", "ann", "cup", "bed"))
        self.assertEqual([house().kind(thing) for thing in house().goods()], ["gold", "land", "gold", "wood"])
        self.assertEqual([house().worth(thing) for thing in house().goods()], [30, 10 ** 9, 0, 30])
        self.assertEqual((house().kind(thing="cup"), house().worth(thing="bed")), ("gold", 30))

    def test_strange_things(self):
        for name in ("zed", "ben", "gold", *ANY_KIND):
            for deed in (house().kind, house().worth):
                with self.assertRaises(NoThing, msg=repr(name)) as caught:
                    deed(name)
                self.assertIs(caught.exception.name, name)

    def test_things_of_a_kind(self):
        self.assertEqual(house().goods("gold"), ("ring", "cup"))
        self.assertEqual(house().goods(kind="wood"), ("bed",))
        for kind in ("ring", "zed", *ANY_KIND):
            if kind is not None:
                self.assertEqual(house().goods(kind), (), kind)

    def test_things_by_a_key(self):
        self.assertEqual(house().goods(None, house().worth), ("cup", "ring", "bed", "ann"))
        self.assertEqual(house().goods(key=lambda name: name), ("ann", "bed", "cup", "ring"))
        self.assertEqual(house().goods(key=len), ("ann", "cup", "bed", "ring"))
        self.assertEqual(house().goods(key=lambda name: 0), house().goods())
        self.assertEqual(house().goods(None, less_by_worth), ("ann", "ring", "bed", "cup"))
        self.assertEqual(house().goods("gold", key=less_by_worth), ("ring", "cup"))
        self.assertEqual(house().goods(key=lambda name: (house().kind(name), name)), ("cup", "ring", "ann", "bed"))
        self.assertEqual(house().goods("gold", house().worth), ("cup", "ring"))
        self.assertEqual(house().goods(key=len, kind="zed"), ())

    def test_len_and_repr(self):
        self.assertEqual((len(house()), repr(house())), (5, "House(5, 4)"))
        self.assertEqual(repr(House(EIGHT)), "House(8, 0)")

    def test_str(self):
        self.assertEqual(str(house()), "\n".join((
            "purse 7", "debts 12", "person ann", "person ben of ann", "person cat", "person dan of ann",
            "person eve of ben", "thing ring gold 30", "thing ann land 1000000000", "thing cup gold 0",
            "thing bed wood 30",
        )))
        self.assertEqual(str(House((("ann", None),))), "purse 0\ndebts 0\nperson ann")

    def test_alike(self):
        self.assertTrue(house() == house())
        self.assertFalse(house() != house())
        for other in (House(PEOPLE, GOODS, 7, 11), House(PEOPLE, GOODS, 8, 12), House(PEOPLE, GOODS[:-1], 7, 12),
                      House(PEOPLE[:-1], GOODS, 7, 12), House(PEOPLE, GOODS[::-1], 7, 12), *ANY_KIND, PEOPLE):
            self.assertIs(house() == other, False)
            self.assertIs(house() != other, True)

    def test_nothing_changes(self):
        one = house()
        one.people(), one.goods(key=len), one.children("ann")
        with self.assertRaises(NoPerson):
            one.children("zed")
        self.assertEqual(one, house())
        self.assertIs(type(one.people()), tuple)
        self.assertIs(type(one.goods()), tuple)
        self.assertIs(type(one.children("ann")), tuple)


if __name__ == "__main__":
    unittest.main()
