"""Marks: a moment, an order and a gap of it, written as a text."""

from pageturns.errors import BadOrder, BadPlace, NoMark
from pageturns.orders import check_gap, check_order
from pageturns.values import is_figure

MOST_MOMENT_FIGURES = 18
MOST_NUMBER_FIGURES = 60
# Words of a mark without parts, and for each part a name, a way, an end and a value.
WORDS_ALWAYS = 7
WORDS_OF_A_PART = 4


def value_text(value):
    if value is None:
        return "-"
    if isinstance(value, str):
        # First the signs that stand in the word, then those that stand for blanks.
        return '"' + value.replace("=", "=e").replace(" ", "=b")
    return "#" + str(value)


def mark_text(mark):
    order = mark[1]
    gap = mark[2]
    words = ["mark", str(mark[0])]
    for part in order[0]:
        words.extend(part)
    words.extend(["key", order[1], "at"])
    words.extend([value_text(value) for value in gap[0][0]])
    words.extend([gap[0][1], gap[1]])
    return " ".join(words)


def read_mark(columns, text):
    if not isinstance(text, str):
        raise NoMark("a mark's text is a text")
    mark = mark_in_words(text.split(" "))
    check_mark(columns, mark)
    # What else might be read in two ways, or stand where nothing is looked at, is told apart by writing it.
    if mark_text(mark) != text:
        raise NoMark("a mark is not written so")
    return mark


def check_mark(columns, mark):
    try:
        check_order(columns, mark[1])
        check_gap(columns, mark[1], mark[2])
    except (BadOrder, BadPlace):
        raise NoMark("the order or the gap is none of the columns") from None


def mark_in_words(words):
    """What stands where a mark's words stand: the number of words tells how many parts there are."""
    many = len(words) - WORDS_ALWAYS
    if many < 0 or many % WORDS_OF_A_PART != 0:
        raise NoMark("a mark has other words")
    many = many // WORDS_OF_A_PART
    behind_parts = 2 + 3 * many
    parts = [tuple(words[at:at + 3]) for at in range(2, behind_parts, 3)]
    values = [read_value(word) for word in words[behind_parts + 3:-2]]
    place = (tuple(values), words[-2])
    return (read_moment(words[1]), (tuple(parts), words[behind_parts + 1]), (place, words[-1]))


def read_moment(word):
    if word.startswith("-") or not is_number_text(word, MOST_MOMENT_FIGURES):
        raise NoMark("a moment is a number from 0 on of at most eighteen figures")
    return int(word)


def read_value(word):
    if word == "-":
        return None
    if word.startswith("#") and is_number_text(word[1:], MOST_NUMBER_FIGURES):
        return int(word[1:])
    if word.startswith('"'):
        return word[1:].replace("=b", " ").replace("=e", "=")
    raise NoMark("a value is not written so")


def is_number_text(text, most):
    figures = text[1:] if text.startswith("-") else text
    if not 1 <= len(figures) <= most or not all([is_figure(sign) for sign in figures]):
        return False
    return str(int(text)) == text
