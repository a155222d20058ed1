import unittest

from pairsheath import errors

REFUSALS = (
    "TooMany",
    "BadTie",
    "Twice",
    "NoTie",
    "BelowNought",
    "Apart",
    "BadText",
    "BadRow",
    "NoName",
    "Taken",
)


class ErrorsTest(unittest.TestCase):
    def test_any_refusal_stands_under_value_error(self):
        self.assertTrue(issubclass(errors.WebError, ValueError))

    def test_each_refusal_stands_under_web_error(self):
        for name in REFUSALS:
            with self.subTest(name=name):
                refusal = getattr(errors, name)
                self.assertTrue(issubclass(refusal, errors.WebError))
                self.assertIsNot(refusal, errors.WebError)
                self.assertEqual(refusal.__name__, name)

    def test_no_refusal_is_a_base_of_another(self):
        for name in REFUSALS:
            for other in REFUSALS:
                if name != other:
                    with self.subTest(name=name, other=other):
                        one = getattr(errors, name)
                        self.assertFalse(issubclass(one, getattr(errors, other)))

    def test_each_is_raised_and_taken_by_name(self):
        for name in REFUSALS + ("WebError",):
            with self.subTest(name=name):
                refusal = getattr(errors, name)
                with self.assertRaises(refusal) as taken:
                    raise refusal("words")
                self.assertEqual(str(taken.exception), "words")


if __name__ == "__main__":
    unittest.main()
