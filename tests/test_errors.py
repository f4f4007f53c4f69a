"""Point 3: the classes of the refusals, and their fields."""

import unittest

from missclock import errors

FIELDS = {"NoThing": "thing", "NoPlace": "place", "TooMany": "many", "NoText": "at"}
PLAIN = ("NoRow", "NoNumber", "NoDrawers", "NoGraces", "NoStanding", "NoWish", "NoDepths",
         "NoSteady", "Nothing", "NoHistory", "NoName", "Taken", "NoForm")


class TestErrors(unittest.TestCase):
    def test_each_stands_straight_under_misserror(self):
        self.assertEqual(errors.MissError.__bases__, (ValueError,))
        for name in list(FIELDS) + list(PLAIN):
            self.assertEqual(getattr(errors, name).__bases__, (errors.MissError,), name)

    def test_each_is_a_class_of_its_own(self):
        told = [getattr(errors, name) for name in list(FIELDS) + list(PLAIN)]
        self.assertEqual(len(set(told)), 17)
        for kind in told:
            self.assertEqual(kind.__module__, "missclock.errors")
            self.assertEqual([other for other in told if issubclass(kind, other)], [kind])

    def test_fields_are_kept_by_their_names(self):
        for name, field in FIELDS.items():
            for worth in ("a", 3, None, -1, 10 ** 5000, ("a", 2), 2.5, b"x"):
                self.assertEqual(getattr(getattr(errors, name)(worth), field), worth)
            self.assertRaises(TypeError, getattr(errors, name))
            self.assertRaises(TypeError, getattr(errors, name), 1, 2)

    def test_a_number_of_many_figures_is_no_trouble_in_a_message(self):
        for name in FIELDS:
            self.assertIsInstance(str(getattr(errors, name)(10 ** 5000)), str)

    def test_without_fields_one_text_is_taken(self):
        for name in PLAIN:
            self.assertEqual(str(getattr(errors, name)("whatever it is")), "whatever it is")
        self.assertIsInstance(errors.MissError("so"), ValueError)

    def test_fields_are_copies(self):
        for name, field in FIELDS.items():
            worth = ["a", ["b"], {"c": ["d"]}, (["e"], 2)]
            refusal = getattr(errors, name)(worth)
            worth[1].append("z")
            worth[2]["c"].append("z")
            worth[3][0].append("z")
            worth.append("z")
            self.assertEqual(getattr(refusal, field), ["a", ["b"], {"c": ["d"]}, (["e"], 2)])

    def test_a_list_that_holds_itself_is_taken(self):
        endless = []
        endless.append(endless)
        self.assertIsInstance(errors.NoThing(endless).thing, list)


if __name__ == "__main__":
    unittest.main()
