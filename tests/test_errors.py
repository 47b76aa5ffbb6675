import unittest

from tests.helper import BASES, refusals
from wordlines import errors

UNDER = {
    "WordError": "NoWord NoChanges NoText NoAge NoSure NoRings NoThings NoCount NoRow",
    "LandError": "NoLand NoName NoGathering NoMap NoTelling NoBack",
    "JoinError": "Told Full Clash TooMany",
}

FIELDS = {
    "NoWord": "word", "NoChanges": "place", "NoText": "row", "NoAge": "age", "NoSure": "sure", "NoRings": "place",
    "NoCount": "many", "NoRow": "row", "NoLand": "place", "NoName": "name", "NoMap": "place", "NoTelling": "key",
    "Told": "key", "Full": "many", "Clash": "both", "TooMany": "many",
}


class TestErrors(unittest.TestCase):
    def test_just_the_refusals_of_the_interface_are_there(self):
        listed = [name for names in UNDER.values() for name in names.split()]
        self.assertEqual(sorted(refusals()), sorted(listed))

    def test_each_base_stands_under_its_class_of_python(self):
        for name, own in BASES.items():
            base = getattr(errors, name)
            self.assertEqual(base.__bases__, (own,))

    def test_each_refusal_stands_under_just_its_base(self):
        for base_name, names in UNDER.items():
            for name in names.split():
                refusal = getattr(errors, name)
                above = [base for base in BASES if issubclass(refusal, getattr(errors, base))]
                self.assertEqual(above, [base_name], name)
                self.assertTrue(issubclass(refusal, BASES[base_name]), name)
                for own_base, own in BASES.items():
                    self.assertEqual(issubclass(refusal, own), own_base == base_name, name)

    def test_no_refusal_stands_under_another(self):
        for name, refusal in refusals().items():
            for other_name, other in refusals().items():
                self.assertEqual(issubclass(refusal, other), name == other_name)

    def test_each_field_holds_the_very_thing_that_is_told(self):
        for name, field in FIELDS.items():
            for thing in (None, 3, "x", ["x"], ({},), object()):
                refusal = getattr(errors, name)(thing)
                self.assertIs(getattr(refusal, field), thing, name)

    def test_the_refusals_without_a_field_can_be_raised(self):
        for name in sorted(set(refusals()) - set(FIELDS)):
            with self.assertRaises(getattr(errors, name)):
                raise getattr(errors, name)("why")


if __name__ == "__main__":
    unittest.main()
