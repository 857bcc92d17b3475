"""Marks: a moment, an order and a gap of it, written as a text."""

from pageturns.errors import BadOrder, BadPlace, NoMark
from pageturns.orders import check_gap, check_order
from pageturns.values import is_figure, is_word

MOST_MOMENT_FIGURES = 18
MOST_NUMBER_FIGURES = 60
# Words of a mark without parts, and for each part a name, a way, an end and a value.
WORDS_ALWAYS = 7
WORDS_OF_A_PART = 4


def value_text(value):
    if value is None:
        return "-"
    if isinstance(value, str):
        # First the signs that stand in the word, then those that stand for blanks.
        return '"' + value.replace("=", "=e").replace(" ", "=b")
    return "#" + str(value)


def mark_text(mark):
    gap = mark[2]
    words = ["mark", str(mark[0])] + order_words(mark[1]) + ["at"]
    words.extend([value_text(value) for value in gap[0][0]])
    return " ".join(words + [gap[0][1], gap[1]])


def order_words(order):
    words = []
    for part in order[0]:
        words.extend(part)
    return words + ["key", order[1]]


def read_mark(columns, text):
    if not isinstance(text, str):
        raise NoMark("a mark's text is a text")
    mark = mark_in_words(text.split(" "))
    check_mark(columns, mark)
    # The words mark, key and at were not looked at: whether they stand there is told by writing it.
    if mark_text(mark) != text:
        raise NoMark("a mark is not written so")
    return mark


def check_mark(columns, mark):
    try:
        check_order(columns, mark[1])
        check_gap(columns, mark[1], mark[2])
    except (BadOrder, BadPlace):
        raise NoMark("the order or the gap is none of the columns") from None


def mark_in_words(words):
    """What stands where a mark's words stand: the number of words tells how many parts there are."""
    many = len(words) - WORDS_ALWAYS
    if many < 0 or many % WORDS_OF_A_PART != 0:
        raise NoMark("a mark has other words")
    behind_order = 4 + 3 * (many // WORDS_OF_A_PART)
    value_words = words[behind_order + 1:-2]
    if not is_moment_text(words[1]) or not all([is_value_text(word) for word in value_words]):
        raise NoMark("the moment or a value is not written so")
    place = (tuple([value_of_text(word) for word in value_words]), words[-2])
    return (int(words[1]), order_in_words(words[2:behind_order]), (place, words[-1]))


def order_in_words(words):
    """What stands where an order's words stand: three for each part, one that is not looked at, and the way."""
    parts = [tuple(words[at:at + 3]) for at in range(0, len(words) - 2, 3)]
    return (tuple(parts), words[-1])


def is_moment_text(text):
    return not text.startswith("-") and is_number_text(text, MOST_MOMENT_FIGURES)


def is_value_text(text):
    if text.startswith("#"):
        return is_number_text(text[1:], MOST_NUMBER_FIGURES)
    if text.startswith('"'):
        return is_word(value_of_text(text)) and value_text(value_of_text(text)) == text
    return text == "-"


def value_of_text(text):
    """The value that is written so."""
    if text == "-":
        return None
    if text.startswith("#"):
        return int(text[1:])
    return text[1:].replace("=b", " ").replace("=e", "=")


def is_number_text(text, most):
    figures = text[1:] if text.startswith("-") else text
    if not 1 <= len(figures) <= most or not all([is_figure(sign) for sign in figures]):
        return False
    return str(int(text)) == text
