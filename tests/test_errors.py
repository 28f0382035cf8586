import unittest

from graftform import errors
from helping import REFUSALS

FIELDS = {
    "NoPlace": "place", "NoName": "name", "NoDocument": "spot", "NoBook": "row",
    "NoForm": "form", "NoTurner": "row", "TooLarge": "size",
}


class Errors(unittest.TestCase):
    def test_graft_error_stands_right_under_value_error(self):
        self.assertEqual(errors.GraftError.__bases__, (ValueError,))

    def test_each_refusal_stands_right_under_graft_error(self):
        self.assertEqual([kind.__name__ for kind in REFUSALS], [
            "NoPlace", "NoName", "NoDocument", "NoPattern", "NoBook",
            "NoForm", "NoTurner", "NoRow", "TooLarge", "TooMany"])
        for kind in REFUSALS:
            with self.subTest(kind.__name__):
                self.assertEqual(kind.__bases__, (errors.GraftError,))

    def test_no_refusal_stands_under_another(self):
        for kind in REFUSALS:
            self.assertEqual([other for other in REFUSALS if issubclass(kind, other)], [kind])

    def test_fields_are_told_with_the_refusal(self):
        for kind in REFUSALS:
            field = FIELDS.get(kind.__name__)
            if field is not None:
                with self.subTest(kind.__name__):
                    self.assertEqual(getattr(kind(7), field), 7)

    def test_refusals_can_be_shown_whatever_their_field(self):
        for worth in (10 ** 5000, None, "\n", ((), [])):
            self.assertIsInstance(str(errors.NoPlace(worth)), str)


if __name__ == "__main__":
    unittest.main()
