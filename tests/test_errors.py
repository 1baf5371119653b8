"""Point [2]: the classes of refusal, and how they stand to one another."""

import unittest

from evenwear import errors

REFUSALS = ("BadSize", "NoPage", "NotErased", "NoSector", "BadContent", "Cut", "NoDisk", "BadRow")


class RefusalsTest(unittest.TestCase):
    def test_wear_error_stands_under_value_error(self):
        self.assertTrue(issubclass(errors.WearError, ValueError))

    def test_each_stands_under_wear_error(self):
        for name in REFUSALS:
            with self.subTest(name=name):
                refusal = getattr(errors, name)
                self.assertTrue(issubclass(refusal, errors.WearError))
                self.assertIsNot(refusal, errors.WearError)
                self.assertEqual(refusal.__name__, name)

    def test_none_stands_under_another(self):
        for name in REFUSALS:
            for other in REFUSALS:
                if name != other:
                    with self.subTest(name=name, other=other):
                        self.assertFalse(issubclass(getattr(errors, name), getattr(errors, other)))

    def test_each_can_be_raised_with_words_and_without(self):
        for name in REFUSALS + ("WearError",):
            refusal = getattr(errors, name)
            for made in (refusal(), refusal("words")):
                with self.subTest(name=name), self.assertRaises(refusal):
                    raise made


if __name__ == "__main__":
    unittest.main()
