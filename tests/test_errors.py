"""[26]: the error classes, their bases and what they keep."""

import unittest

from middledots import errors

KEPT = {
    "NoDot": (LookupError, ("dot",)),
    "NoEdge": (LookupError, ("edge",)),
    "NoMiddle": (LookupError, ("middle",)),
    "NothingDone": (LookupError, ()),
    "BadText": (ValueError, ("line",)),
    "Broken": (ValueError, ("place",)),
    "CanNot": (ValueError, ()),
    "Crossing": (ValueError, ("edge", "other")),
    "TooMany": (ValueError, ()),
    "Unfit": (ValueError, ()),
}


class Errors(unittest.TestCase):
    def test_ten_classes_stand_in_the_file(self):
        found = {name for name, own in vars(errors).items() if isinstance(own, type)}
        self.assertEqual(found, set(KEPT))
        for name in KEPT:
            self.assertEqual(getattr(errors, name).__module__, "middledots.errors")

    def test_each_has_its_one_base(self):
        for name, (base, _) in KEPT.items():
            with self.subTest(name=name):
                self.assertEqual(getattr(errors, name).__bases__, (base,))

    def test_each_keeps_what_it_takes(self):
        values = (((0, 0), (1, 0)), [3, (4, None)])
        for name, (_, kept) in KEPT.items():
            with self.subTest(name=name):
                given = dict(zip(kept, values))
                by_place = getattr(errors, name)(*given.values())
                by_name = getattr(errors, name)(**given)
                self.assertEqual((vars(by_place), vars(by_name)), (given, given))
                for attribute in kept:
                    self.assertIs(getattr(by_place, attribute), given[attribute])

    def test_each_is_caught_by_its_class_alone(self):
        for name, (base, kept) in KEPT.items():
            for other in KEPT:
                with self.subTest(name=name, other=other):
                    error = getattr(errors, name)(*range(len(kept)))
                    self.assertEqual(isinstance(error, getattr(errors, other)), name == other)
                    self.assertIsInstance(error, base)


if __name__ == "__main__":
    unittest.main()
