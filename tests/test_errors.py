import unittest

from pageturns import errors
from pageturns.errors import PageError

NAMES = (
    "BadColumns", "BadRow", "BadOrder", "BadSieve", "BadPlace", "BadSize", "HasKey",
    "NoKey", "NoMoment", "NoMark", "OldMark", "BadDeed", "NoText", "NoLine",
)


class ErrorsTest(unittest.TestCase):
    def test_the_root_is_a_value_error(self):
        self.assertEqual(PageError.__bases__, (ValueError,))

    def test_there_are_fourteen_straight_under_the_root(self):
        self.assertEqual(len(NAMES), 14)
        for name in NAMES:
            with self.subTest(name):
                self.assertEqual(getattr(errors, name).__bases__, (PageError,))

    def test_each_is_called_as_it_is_named(self):
        for name in NAMES:
            self.assertEqual(getattr(errors, name).__name__, name)

    def test_none_is_another_ones(self):
        classes = [getattr(errors, name) for name in NAMES]
        for one in classes:
            for other in classes:
                with self.subTest(one=one.__name__, other=other.__name__):
                    self.assertEqual(issubclass(one, other), one is other)

    def test_each_is_raised_and_taken_as_a_page_error_and_a_value_error(self):
        for name in NAMES:
            raised = getattr(errors, name)
            for taken in (raised, PageError, ValueError):
                with self.subTest(name=name, taken=taken.__name__), self.assertRaises(taken):
                    raise raised("words")


if __name__ == "__main__":
    unittest.main()
