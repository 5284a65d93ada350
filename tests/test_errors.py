import unittest

from formferry import errors
from formferry.errors import FerryError, NoName, NoPort, NoText, Stars, Taken, Twice

NAMED = [Twice, NoName, Stars, NoPort, Taken]
REFUSALS = NAMED + [NoText]


def made(refusal):
    return refusal(3) if refusal == NoText else refusal("paper")


class TestErrors(unittest.TestCase):
    def test_named_refusals_have_the_name(self):
        for refusal in NAMED:
            for name in ["a", "paper", "abcdefghijkl"]:
                with self.subTest(refusal=refusal, name=name):
                    self.assertEqual(refusal(name).name, name)
                    self.assertEqual(refusal(name=name).name, name)

    def test_no_text_has_the_row(self):
        for row in [0, 1, 17]:
            with self.subTest(row=row):
                self.assertEqual(NoText(row).row, row)
                self.assertEqual(NoText(row=row).row, row)

    def test_each_object_has_its_own_value(self):
        for refusal in NAMED:
            first, second = refusal("a"), refusal("b")
            self.assertEqual((first.name, second.name), ("a", "b"))
        first, second = NoText(1), NoText(2)
        self.assertEqual((first.row, second.row), (1, 2))

    def test_each_is_a_ferry_error_and_a_value_error(self):
        self.assertTrue(issubclass(FerryError, ValueError))
        for refusal in REFUSALS:
            with self.subTest(refusal=refusal):
                self.assertIsInstance(made(refusal), FerryError)
                self.assertIsInstance(made(refusal), ValueError)
                self.assertEqual(refusal.__bases__, (FerryError,))

    def test_none_is_another_refusal(self):
        for refusal in REFUSALS:
            for other in REFUSALS:
                with self.subTest(refusal=refusal, other=other):
                    self.assertEqual(isinstance(made(refusal), other), refusal == other)
            self.assertNotEqual(refusal, FerryError)

    def test_each_is_raised_and_taken_by_its_own_class_and_by_the_common_one(self):
        for refusal in REFUSALS:
            for taken in [refusal, FerryError, ValueError]:
                with self.subTest(refusal=refusal, taken=taken):
                    with self.assertRaises(taken) as caught:
                        raise made(refusal)
                    self.assertEqual(vars(caught.exception), vars(made(refusal)))

    def test_the_classes_bear_their_names(self):
        for name in ["FerryError", "Twice", "NoName", "Stars", "NoText", "NoPort", "Taken"]:
            self.assertEqual(getattr(errors, name).__name__, name)


if __name__ == "__main__":
    unittest.main()
