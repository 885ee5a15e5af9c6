"""Point [4]: the three families of refusals, and the field of each."""

import inspect
import unittest

from willdealt import errors

PYTHONS_OWN = {"WordError": ValueError, "LostError": LookupError, "RoomError": ArithmeticError}

FIELDS = {
    "WordError": {
        "NoName": "thing", "NoSum": "thing", "NoShares": None, "NoPeople": "number",
        "NoGoods": "number", "NoText": "line", "NoStory": "number", "NoDay": "thing",
        "NoCond": None, "NoWhom": None, "NoClause": "number", "NoReading": "thing",
        "NoWord": "thing", "LabelStands": "name", "DayStands": "thing", "NoRow": None,
    },
    "LostError": {"NoPerson": "name", "NoThing": "name", "NoLabel": "name", "NoUndo": None},
    "RoomError": {"TooMany": "many"},
}


def listed():
    """(family, class, field) of each refusal of the interface."""
    return [
        (getattr(errors, family), getattr(errors, word), field)
        for family in FIELDS
        for word, field in FIELDS[family].items()
    ]


class Families(unittest.TestCase):
    def test_families_stand_under_pythons_own(self):
        for word, own in PYTHONS_OWN.items():
            self.assertEqual(getattr(errors, word).__bases__, (own,))

    def test_no_family_stands_under_another(self):
        for one in PYTHONS_OWN:
            for other in PYTHONS_OWN:
                stands = issubclass(getattr(errors, one), getattr(errors, other))
                self.assertEqual(stands, one == other)

    def test_each_refusal_stands_under_its_family_alone(self):
        families = [getattr(errors, word) for word in PYTHONS_OWN]
        for family, refusal, field in listed():
            self.assertEqual(refusal.__bases__, (family,))
            under = [each for each in families if issubclass(refusal, each)]
            self.assertEqual(under, [family])

    def test_no_refusal_stands_under_another(self):
        classes = [refusal for family, refusal, field in listed()]
        for one in classes:
            for other in classes:
                self.assertEqual(issubclass(one, other), one is other)

    def test_just_the_listed_classes_are_there(self):
        names = [name for name, thing in inspect.getmembers(errors, inspect.isclass)]
        wanted = list(PYTHONS_OWN) + [refusal.__name__ for family, refusal, field in listed()]
        self.assertEqual(sorted(names), sorted(wanted))


class Fields(unittest.TestCase):
    def test_field_is_set_when_created(self):
        for family, refusal, field in listed():
            if field is None:
                self.assertEqual(vars(refusal()), {})
                continue
            for thing in (None, True, 0, 7, "ann", (), ["x"], 10 ** 5000):
                self.assertIs(getattr(refusal(thing), field), thing)
                self.assertIs(getattr(refusal(**{field: thing}), field), thing)
                self.assertEqual(list(vars(refusal(thing))), [field])

    def test_each_object_has_its_own(self):
        for family, refusal, field in listed():
            if field is not None:
                one, other = refusal(1), refusal(2)
                self.assertEqual((getattr(one, field), getattr(other, field)), (1, 2))

    def test_each_is_caught_by_its_family_and_by_pythons_own(self):
        for family, refusal, field in listed():
            made = refusal() if field is None else refusal(3)
            for wider in (family, PYTHONS_OWN[family.__name__]):
                with self.assertRaises(wider) as caught:
                    raise made
                self.assertIs(caught.exception, made)


if __name__ == "__main__":
    unittest.main()
