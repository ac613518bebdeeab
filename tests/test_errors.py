"""0.4: the classes of refusals and their fields."""

import unittest

from meanrings import errors


class Errors(unittest.TestCase):
    names = ["NoPlace", "NoArrow", "NoRing", "NoNumber", "NoRow", "NoWeb", "NoText", "TooGreat"]

    def test_mean_error_stands_under_value_error(self):
        self.assertEqual(errors.MeanError.__bases__, (ValueError,))

    def test_each_stands_straight_under_mean_error(self):
        for name in self.names:
            self.assertEqual(getattr(errors, name).__bases__, (errors.MeanError,), name)

    def test_those_without_fields_are_made_of_nothing(self):
        for name in self.names[:5]:
            with self.assertRaises(errors.MeanError) as caught:
                raise getattr(errors, name)()
            self.assertEqual(vars(caught.exception), {}, name)

    def test_fields(self):
        self.assertEqual(vars(errors.NoWeb(-1)), {"number": -1})
        self.assertEqual(vars(errors.NoWeb(number=24)), {"number": 24})
        self.assertEqual(vars(errors.NoText(3)), {"row": 3})
        self.assertEqual(vars(errors.NoText(row=0)), {"row": 0})
        self.assertEqual(vars(errors.TooGreat(7, 6)), {"many": 7, "most": 6})
        self.assertEqual(vars(errors.TooGreat(most=24, many=25)), {"many": 25, "most": 24})

    def test_messages_can_be_shown(self):
        for error in [errors.NoWeb(1), errors.NoText(1), errors.TooGreat(7, 6), errors.NoPlace()]:
            self.assertIsInstance(str(error), str)


if __name__ == "__main__":
    unittest.main()
