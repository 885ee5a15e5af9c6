"""Point [10]: to whom."""

import random
import unittest
from fractions import Fraction

from tests.chance import any_whom
from tests.things import ANY_KIND, NO_NAMES, otherwise
from willdealt.errors import NoDay, NoPerson, NoWhom
from willdealt.houses import House
from willdealt.stories import Story
from willdealt.whoms import is_whom, takers

ONE = ("one", "ann")
KIDS = ("children", "ann")
STOCK = ("stock", "ann")

SOME = (
    ((ONE,),), ((KIDS,),), ((STOCK,),), ((ONE, ONE),), ((ONE, KIDS, STOCK), (KIDS,)), ((ONE,) * 6,) * 4,
    ((("stock", "abcdefgh"),), (("one", "one"), ("children", "stocks"))),
)

# ann's children are ben, cat and dan; ben's eve and fay, dan's gus; eve's hal.
HOUSE = House((
    ("ann", None), ("ben", "ann"), ("cat", "ann"), ("dan", "ann"),
    ("eve", "ben"), ("fay", "ben"), ("gus", "dan"), ("hal", "eve"),
))


def dead(text, day=0):
    """The story in which all of some names die on one day."""
    return Story(tuple((name, day) for name in sorted(text.split())))


def wanted(house, whom, story, wait):
    """What point [10] says, told with Python's own fractions, part by part."""
    def stock(name):
        if story.lives(name, wait):
            return {name: Fraction(1)}
        return equal([stock(child) for child in house.children(name)])

    def equal(groups):
        groups = [group for group in groups if group]
        told = {}
        for group in groups:
            for name, share in group.items():
                told[name] = told.get(name, 0) + share / len(groups)
        return told

    def part(word, name):
        if word == "stock":
            return stock(name)
        names = [name] if word == "one" else house.children(name)
        return equal([{each: Fraction(1)} for each in names if story.lives(each, wait)])

    for alternative in whom:
        told = equal([part(*each) for each in alternative])
        if told:
            return tuple((name, (share.numerator, share.denominator)) for name, share in told.items())
    return ()


class IsWhom(unittest.TestCase):
    def yes(self, thing):
        self.assertIs(is_whom(thing), True, thing)

    def no(self, thing):
        self.assertIs(is_whom(thing), False, thing)

    def test_each_form(self):
        for whom in SOME:
            self.yes(whom)
        self.assertIs(is_whom(thing=SOME[0]), True)

    def test_things_of_any_kind(self):
        for thing in (*ANY_KIND, 0, "ann", ONE, (ONE,), [[ONE]], ([ONE],), [(ONE,)]):
            self.no(thing)
        for thing in (*ANY_KIND, 0, "ann", ONE, ((ONE,),), [ONE]):
            self.no((thing,))
            self.no(((ONE,), thing))
        for thing in (*ANY_KIND, 0, "ann", (ONE,), list(ONE)):
            self.no(((thing,),))
            self.no(((ONE, thing),))
            self.no((((thing, "ann"),),))
        for thing in (*ANY_KIND, 0, ONE):
            self.no(((("one", thing),),))

    def test_one_place_put_otherwise(self):
        for whom in SOME:
            for other in otherwise(whom):
                self.no(other)

    def test_a_part_fewer_or_more(self):
        self.no(((("one",),),))
        self.no(((("one", "ann", "ben"),),))
        self.no((((),),))
        self.no(((),))
        self.no(((ONE,), ()))
        self.no(())

    def test_four_alternatives(self):
        for many in range(1, 5):
            self.yes(((ONE,),) * many)
        self.no(((ONE,),) * 5)

    def test_six_parts(self):
        for many in range(1, 7):
            self.yes(((ONE,) * many,))
            self.yes(((ONE,), (STOCK,) * many))
        self.no(((ONE,) * 7,))
        self.no(((ONE,), (ONE,) * 7))

    def test_names(self):
        for name in NO_NAMES:
            for word in ("one", "children", "stock"):
                self.no((((word, name),),))
        self.yes(((("one", "abcdefgh"),),))
        self.no(((("one", "abcdefghi"),),))

    def test_words(self):
        for word in ("One", "all", "child", "stocks", "", "lives", "give"):
            self.no((((word, "ann"),),))


class Takers(unittest.TestCase):
    def told(self, whom, story=None, wait=0):
        told = takers(HOUSE, whom, story or Story(), wait)
        self.assertIs(type(told), tuple)
        for row in told:
            self.assertIs(type(row), tuple)
            self.assertIs(type(row[1]), tuple)
        if told:
            self.assertEqual(sum(Fraction(*share) for name, share in told), 1)
        return told

    def test_one(self):
        self.assertEqual(self.told(((ONE,),)), (("ann", (1, 1)),))
        self.assertEqual(self.told(((ONE,),), dead("ann")), ())
        self.assertEqual(self.told(((ONE,),), dead("ann", 1)), (("ann", (1, 1)),))

    def test_children(self):
        third = (1, 3)
        self.assertEqual(self.told(((KIDS,),)), (("ben", third), ("cat", third), ("dan", third)))
        self.assertEqual(self.told(((KIDS,),), dead("ann cat")), (("ben", (1, 2)), ("dan", (1, 2))))
        self.assertEqual(self.told(((KIDS,),), dead("ben cat")), (("dan", (1, 1)),))
        # Grandchildren don't step in for children.
        self.assertEqual(self.told(((KIDS,),), dead("ben cat dan")), ())
        self.assertEqual(self.told(((("children", "hal"),),)), ())

    def test_stock(self):
        self.assertEqual(self.told(((STOCK,),)), (("ann", (1, 1)),))
        self.assertEqual(
            self.told(((STOCK,),), dead("ann")), (("ben", (1, 3)), ("cat", (1, 3)), ("dan", (1, 3))))

    def test_stock_over_generations(self):
        self.assertEqual(
            self.told(((STOCK,),), dead("ann ben")),
            (("eve", (1, 6)), ("fay", (1, 6)), ("cat", (1, 3)), ("dan", (1, 3))))
        # cat has nobody, so only two stocks count.
        self.assertEqual(
            self.told(((STOCK,),), dead("ann ben cat dan eve")),
            (("hal", (1, 4)), ("fay", (1, 4)), ("gus", (1, 2))))
        self.assertEqual(self.told(((STOCK,),), dead("ann ben cat dan eve fay")), (("hal", (1, 2)), ("gus", (1, 2))))
        self.assertEqual(self.told(((STOCK,),), dead("ann ben cat dan eve fay gus")), (("hal", (1, 1)),))
        self.assertEqual(self.told(((STOCK,),), dead("ann ben cat dan eve fay gus hal")), ())

    def test_a_stock_stops_where_one_stands(self):
        # eve and hal stand below ben, who stands.
        self.assertEqual(self.told(((("stock", "ben"),),), dead("ann")), (("ben", (1, 1)),))

    def test_by_wait(self):
        story = dead("ann ben", 30)
        self.assertEqual(self.told(((ONE,),), story, 29), (("ann", (1, 1)),))
        self.assertEqual(self.told(((ONE,),), story, 30), ())
        self.assertEqual(self.told(((KIDS,),), story, 30), (("cat", (1, 2)), ("dan", (1, 2))))
        self.assertEqual(self.told(((("stock", "ben"),),), story, 30), (("eve", (1, 2)), ("fay", (1, 2))))
        self.assertEqual(self.told(((("stock", "ben"),),), story, 29), (("ben", (1, 1)),))
        self.assertEqual(self.told(((ONE,),), dead("ann", -5), -6), (("ann", (1, 1)),))

    def test_parts_that_have_are_equal(self):
        whom = ((ONE, KIDS, ("stock", "hal")),)
        ninth = (1, 9)
        self.assertEqual(
            self.told(whom), (("ann", (1, 3)), ("ben", ninth), ("cat", ninth), ("dan", ninth), ("hal", (1, 3))))
        self.assertEqual(
            self.told(whom, dead("hal ben")), (("ann", (1, 2)), ("cat", (1, 4)), ("dan", (1, 4))))
        self.assertEqual(self.told(whom, dead("ann ben cat dan")), (("hal", (1, 1)),))

    def test_the_first_alternative_that_has_somebody(self):
        whom = ((ONE,), (("children", "ben"), ("one", "cat")), (("one", "dan"),), (STOCK,))
        self.assertEqual(self.told(whom), (("ann", (1, 1)),))
        self.assertEqual(self.told(whom, dead("ann")), (("eve", (1, 4)), ("fay", (1, 4)), ("cat", (1, 2))))
        self.assertEqual(self.told(whom, dead("ann eve fay cat")), (("dan", (1, 1)),))
        self.assertEqual(self.told(whom, dead("ann eve fay cat dan")), (("ben", (1, 2)), ("gus", (1, 2))))
        self.assertEqual(self.told(whom[:3], dead("ann eve fay cat dan")), ())

    def test_a_name_with_several_shares(self):
        self.assertEqual(self.told(((ONE, ONE, ("one", "ben")),)), (("ann", (2, 3)), ("ben", (1, 3))))
        self.assertEqual(self.told(((ONE,) * 6,)), (("ann", (1, 1)),))
        whom = ((KIDS, ("one", "dan"), ("one", "ann"), ("one", "ben")),)
        self.assertEqual(
            self.told(whom), (("ben", (1, 3)), ("cat", (1, 12)), ("dan", (1, 3)), ("ann", (1, 4))))
        whom = ((("one", "dan"), KIDS),)
        self.assertEqual(self.told(whom), (("dan", (2, 3)), ("ben", (1, 6)), ("cat", (1, 6))))

    def test_many_others(self):
        dice = random.Random(10)
        for turn in range(800):
            whom = any_whom(dice, HOUSE.people())
            deaths = sorted((name, dice.randint(-2, 2)) for name in HOUSE.people() if dice.random() < 0.8)
            story, wait = Story(tuple(deaths)), dice.randint(-2, 2)
            self.assertEqual(self.told(whom, story, wait), wanted(HOUSE, whom, story, wait))

    def test_by_name_and_left_out(self):
        story = dead("ann", 3)
        self.assertEqual(takers(house=HOUSE, whom=((ONE,),), story=story), (("ann", (1, 1)),))
        self.assertEqual(takers(wait=3, story=story, whom=((ONE,),), house=HOUSE), ())
        told = [len(takers(HOUSE, ((ONE,),), dead("ann", day))) for day in (-1, 0, 1)]
        self.assertEqual(told, [0, 0, 1])


class Refusals(unittest.TestCase):
    def test_no_whom(self):
        for thing in (*ANY_KIND, ONE, (ONE,), [(ONE,)], ((ONE,),) * 5, ((ONE,) * 7,)):
            with self.assertRaises(NoWhom):
                takers(HOUSE, thing, Story())

    def test_no_day(self):
        for wait in (*ANY_KIND, 10000, -10000, "0"):
            with self.assertRaises(NoDay) as caught:
                takers(HOUSE, ((ONE,),), Story(), wait)
            self.assertIs(caught.exception.thing, wait)

    def test_the_first_strange_name(self):
        for word in ("one", "children", "stock"):
            zed, xen = (word, "zed"), (word, "xen")
            for whom, name in ((((zed,),), "zed"), (((ONE, zed),), "zed"), (((ONE,), (zed,)), "zed"),
                               (((ONE, xen), (zed,)), "xen"), (((ONE, zed, xen),), "zed")):
                for story in (Story(), dead("ann")):
                    with self.assertRaises(NoPerson) as caught:
                        takers(HOUSE, whom, story)
                    self.assertEqual(caught.exception.name, name)

    def test_which_is_told_first(self):
        with self.assertRaises(NoWhom):
            takers(HOUSE, ((("one", "zed"), None),), Story(), None)
        with self.assertRaises(NoDay):
            takers(HOUSE, ((("one", "zed"),),), Story(), None)

    def test_nothing_is_changed(self):
        whom = [[["one", "ann"]]]
        with self.assertRaises(NoWhom):
            takers(HOUSE, whom, Story())
        self.assertEqual(whom, [[["one", "ann"]]])


if __name__ == "__main__":
    unittest.main()
