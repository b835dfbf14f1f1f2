"""Point 3 and the interface of onemore/errors.py: how the refusals stand to one another."""

import copy
import pickle
import unittest

from onemore import errors

NAMES = [
    "NoYard", "NoStanding", "NoDay", "NoPlace", "NoRoom", "NoAsk", "NoOpen", "NoSight", "NoPrices",
    "NoNumber", "NoWide", "NoLog", "NoLinks", "NoText",
]


class ErrorsTest(unittest.TestCase):
    def test_the_refusal_of_all_stands_under_value_error(self):
        self.assertEqual(errors.YardError.__bases__, (ValueError,))

    def test_each_refusal_stands_straight_under_the_one_of_all(self):
        for name in NAMES + ["TooMany"]:
            with self.subTest(name=name):
                self.assertEqual(getattr(errors, name).__bases__, (errors.YardError,))

    def test_none_is_another_one(self):
        made = [getattr(errors, name) for name in NAMES + ["TooMany"]]
        for one in made:
            self.assertEqual([other for other in made if issubclass(one, other)], [one])

    def test_each_is_made_of_nothing(self):
        for name in NAMES:
            with self.subTest(name=name):
                error = getattr(errors, name)()
                self.assertIsInstance(error, ValueError)
                self.assertEqual(vars(error), {})

    def test_too_many_holds_its_field(self):
        error = errors.TooMany(5001)
        self.assertEqual(vars(error), {"many": 5001})
        self.assertRaises(TypeError, errors.TooMany)

    def test_too_many_is_copied_with_its_field(self):
        error = errors.TooMany(5001)
        self.assertEqual(copy.copy(error).many, 5001)
        self.assertEqual(pickle.loads(pickle.dumps(error)).many, 5001)

    def test_all_are_defined_in_this_file(self):
        for name in NAMES + ["TooMany", "YardError"]:
            with self.subTest(name=name):
                self.assertEqual(getattr(errors, name).__module__, "onemore.errors")


if __name__ == "__main__":
    unittest.main()
