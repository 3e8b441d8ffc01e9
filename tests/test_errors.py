import unittest

from latchgrove import errors
from latchgrove.errors import GroveError, NoCut

OF_A_TEXT = (
    "NoRoom", "NoKey", "NoValue", "NoPage", "NoTree", "NoStretch", "NoDeed", "NoPairs", "TooMany", "NoNumber",
    "NoShape", "NoHand", "Waits", "Holds", "HoldsNot", "NoPlans", "TooWide", "NoPrograms", "NoRule", "NoRecords",
    "NoDisk", "NoEvent", "NoText",
)


class ErrorsTest(unittest.TestCase):
    def test_each_is_right_under_the_one(self):
        self.assertEqual(GroveError.__bases__, (ValueError,))
        for name in OF_A_TEXT + ("NoCut",):
            one = getattr(errors, name)
            self.assertEqual(one.__bases__, (GroveError,), name)
            self.assertEqual(one.__name__, name)
            self.assertEqual(one.__module__, "latchgrove.errors")

    def test_none_is_another(self):
        names = OF_A_TEXT + ("NoCut",)
        classes = [getattr(errors, name) for name in names]
        self.assertEqual(len(set(classes)), 24)
        for one in classes:
            for other in classes:
                self.assertEqual(issubclass(one, other), one is other)

    def test_made_of_a_text(self):
        for name in ("GroveError",) + OF_A_TEXT:
            one = getattr(errors, name)("a text")
            self.assertEqual(str(one), "a text")
            self.assertEqual(one.args, ("a text",))
            with self.assertRaises(ValueError):
                raise one

    def test_no_cut_keeps_its_row(self):
        one, other = NoCut(5), NoCut(7)
        self.assertEqual((one.row, other.row), (5, 7))
        self.assertIsNot(one, other)
        self.assertNotIn("row", vars(NoCut))
        one.row = 6
        self.assertEqual((one.row, other.row, NoCut(5).row), (6, 7, 5))
        with self.assertRaises(GroveError) as caught:
            raise other
        self.assertEqual(caught.exception.row, 7)
        self.assertIn("7", str(other))
