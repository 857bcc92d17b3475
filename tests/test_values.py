import unittest

from helper import other_things, shown
from pageturns.values import compared, is_key, is_name, is_value, is_whole, is_word

SIXTY = int("9" * 60)
LETTERS = "abcdefghijklmnopqrstuvwxyz"
FIGURES = "0123456789"
WORD_SIGNS = "".join(chr(code) for code in range(32, 127))


def is_number_or_none(thing):
    return is_value("number", thing)


def is_word_or_none(thing):
    return is_value("word", thing)


class AnswersTest(unittest.TestCase):
    """Each answer is True or False itself, and the same when asked again."""

    def hold(self, asked, things, answer):
        for thing in things:
            with self.subTest(asked=asked.__name__, thing=shown(thing)):
                self.assertIs(asked(thing), answer)
                self.assertIs(asked(thing), answer)


class WholeTest(AnswersTest):
    def test_ints_are(self):
        self.hold(is_whole, [0, 1, -1, 7, SIXTY, -SIXTY], True)

    def test_truths_are_not(self):
        self.hold(is_whole, [True, False], False)

    def test_other_things_are_not(self):
        self.hold(is_whole, [None, "", "1", "a", (), (1,)] + other_things(), False)


class NameTest(AnswersTest):
    def test_one_to_eight_small_letters_are(self):
        self.hold(is_name, list(LETTERS) + ["price", "abcdefgh", "zzzzzzzz"], True)

    def test_too_short_and_too_long_are_not(self):
        self.hold(is_name, ["", "abcdefghi", "a" * 12, "a" * 41], False)

    def test_each_other_sign_is_refused_wherever_it_stands(self):
        others = [chr(code) for code in range(256) if chr(code) not in LETTERS]
        self.hold(is_name, others + ["\u03b1", "\uff41"], False)
        self.hold(is_name, ["a" + sign for sign in others], False)
        self.hold(is_name, [sign + "a" for sign in others], False)
        self.hold(is_name, ["Price", "pRice", "price1", "1price", "price\n", "a b", "a_b"], False)

    def test_other_things_are_not(self):
        self.hold(is_name, [None, 0, 1, (), ("a",), ("p", "r")] + other_things(), False)


class KeyTest(AnswersTest):
    def test_letters_and_figures_behind_a_letter_are(self):
        self.hold(is_key, list(LETTERS) + ["a" + sign for sign in LETTERS + FIGURES], True)
        self.hold(is_key, ["pen2", "abcdefgh", "abcdefghi", "a12345678901", "abcdefghijkl"], True)

    def test_too_short_and_too_long_are_not(self):
        self.hold(is_key, ["", "abcdefghijklm", "a123456789012", "a" * 40, "a" * 41], False)

    def test_a_figure_ahead_is_not(self):
        self.hold(is_key, list(FIGURES) + ["1a", "0pen", "9" * 12], False)

    def test_each_other_sign_is_refused_wherever_it_stands(self):
        others = [chr(code) for code in range(256) if chr(code) not in LETTERS + FIGURES]
        self.hold(is_key, others, False)
        self.hold(is_key, ["a" + sign for sign in others], False)
        self.hold(is_key, [sign + "a" for sign in others], False)
        self.hold(is_key, ["Pen", "pEn", "pen\n", "\npen", "pe n", "pen-2", "a\u0661", "a\u00b2"], False)

    def test_other_things_are_not(self):
        self.hold(is_key, [None, 0, 1, (), ("a",), ("pen",)] + other_things(), False)


class WordTest(AnswersTest):
    def test_none_to_forty_signs_are(self):
        for count in (0, 1, 8, 9, 12, 13, 40):
            self.hold(is_word, ["a" * count, " " * count, "~" * count, "Z" * count], True)

    def test_more_than_forty_are_not(self):
        self.hold(is_word, ["a" * 41, " " * 41, "a" * 1000], False)

    def test_each_sign_from_the_blank_to_the_tilde_is(self):
        self.hold(is_word, list(WORD_SIGNS), True)
        self.hold(is_word, [WORD_SIGNS[:40], WORD_SIGNS[40:80], WORD_SIGNS[80:]], True)

    def test_signs_next_to_the_bounds_and_beyond_are_not(self):
        others = [chr(code) for code in range(256) if chr(code) not in WORD_SIGNS]
        self.assertIn("\x1f", others)
        self.assertIn("\x7f", others)
        self.assertIn("\n", others)
        self.hold(is_word, others + ["\u03b1", "\U0001f600"], False)
        self.hold(is_word, ["a" + sign for sign in others], False)
        self.hold(is_word, [sign + "a" for sign in others], False)
        self.hold(is_word, ["a" * 39 + "\n", "a\nb"], False)

    def test_other_things_are_not(self):
        self.hold(is_word, [None, 0, 1, (), ("a",)] + other_things(), False)


class ValueTest(AnswersTest):
    def test_none_is_one_of_each_kind(self):
        self.hold(is_number_or_none, [None], True)
        self.hold(is_word_or_none, [None], True)

    def test_numbers(self):
        self.hold(is_number_or_none, [0, -1, 5, SIXTY, -SIXTY], True)
        self.hold(is_number_or_none, [True, False, "", "1", "a", (), (1,)] + other_things(), False)

    def test_words(self):
        self.hold(is_word_or_none, ["", " ", "~", "a", "A word", "5", "a" * 40], True)
        self.hold(is_word_or_none, ["a" * 41, "\n", "a\x7f", 0, 1, (), ("a",)] + other_things(), False)


class ComparedTest(unittest.TestCase):
    def hold(self, ahead, behind, way, end):
        with self.subTest(ahead=ahead, behind=behind, way=way, end=end):
            for answer, right in (
                (compared(ahead, behind, way, end), -1),
                (compared(behind, ahead, way, end), 1),
                (compared(ahead, ahead, way, end), 0),
                (compared(behind, behind, way, end), 0),
            ):
                self.assertEqual(answer, right)
                self.assertNotIsInstance(answer, bool)

    def hold_row(self, values):
        """Values as they go up: compared each with each, by both ways and ends."""
        for place, less in enumerate(values):
            for more in values[place + 1:]:
                for end in ("first", "last"):
                    self.hold(less, more, "up", end)
                    self.hold(more, less, "down", end)

    def test_numbers_go_by_size(self):
        self.hold_row([-SIXTY, -SIXTY + 1, -10, -9, -1, 0, 1, 9, 10, SIXTY - 1, SIXTY])

    def test_words_go_sign_by_sign(self):
        self.hold_row(["", " ", "!", "10", "9", "Z", "a", "a ", "aa", "ab", "b", "b" * 40, "~", "~~"])

    def test_none_stands_at_its_end_whatever_the_way(self):
        for value in (-SIXTY, -1, 0, 1, SIXTY, "", " ", "a", "~" * 40):
            for way in ("up", "down"):
                self.hold(None, value, way, "first")
                self.hold(value, None, way, "last")

    def test_none_is_the_same_as_none(self):
        for way in ("up", "down"):
            for end in ("first", "last"):
                self.assertEqual(compared(None, None, way, end), 0)

    def test_equal_values_that_are_made_apart_are_the_same(self):
        for way in ("up", "down"):
            for end in ("first", "last"):
                self.assertEqual(compared(int("9" * 60), SIXTY, way, end), 0)
                self.assertEqual(compared("".join(["p", "en"]), "pen", way, end), 0)


if __name__ == "__main__":
    unittest.main()
