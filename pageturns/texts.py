"""Rows, orders, sieves and columns, written as texts and read from them."""

from pageturns.columns import check_columns, check_row
from pageturns.errors import NoText
from pageturns.marks import is_value_text, order_in_words, order_words, value_of_text, value_text
from pageturns.orders import check_order
from pageturns.sieves import check_sieve

# The first words of sieves that ask for a column's value.
COLUMN_WORDS = ("is", "below", "above", "begins")


def show_row(row):
    return " ".join([row[0]] + [value_text(value) for value in row[1]])


def show_order(order):
    return " ".join(order_words(order))


def show_columns(columns):
    return " ".join([f"{name} {kind}" for name, kind in columns])


def show_sieve(sieve):
    return " ".join(["(", sieve[0]] + inner_texts(sieve) + [")"])


def inner_texts(sieve):
    if sieve[0] in COLUMN_WORDS:
        return [sieve[1], value_text(sieve[2])]
    if sieve[0] == "key":
        return list(sieve[1])
    if sieve[0] == "not":
        return [show_sieve(sieve[1])]
    if sieve[0] in ("and", "or"):
        return [show_sieve(inner) for inner in sieve[1]]
    return []


def read_row(columns, text):
    row = row_in(text)
    check_row(columns, row)
    return row


def read_order(columns, text):
    order = order_in(text)
    check_order(columns, order)
    return order


def read_sieve(columns, text):
    sieve = sieve_in(text)
    check_sieve(columns, sieve)
    return sieve


def read_columns(text):
    columns = columns_in(text)
    check_columns(columns)
    return columns


# What follows reads what is written, of whatever columns, and refuses with NoText alone.

def row_in(text):
    words = words_of(text)
    check_names(words[:1])
    return (words[0], tuple([value_in_word(word) for word in words[1:]]))


def order_in(text):
    words = words_of(text)
    if len(words) % 3 != 2 or words[-2] != "key":
        raise NoText("an order is three words a part, key and a way")
    check_names(words)
    return order_in_words(words)


def columns_in(text):
    words = words_of(text)
    if words == [""]:
        return ()
    if len(words) % 2 != 0:
        raise NoText("columns are two words each")
    check_names(words)
    return tuple([tuple(words[at:at + 2]) for at in range(0, len(words), 2)])


def sieve_in(text):
    # By a list of the unclosed ones and not by recursion: a text may be thousands deep.
    unclosed = [[]]
    for word in words_of(text):
        if word == "(":
            unclosed.append([])
        elif word == ")" and len(unclosed) > 1:
            sieve = sieve_of(unclosed.pop())
            unclosed[-1].append(sieve)
        else:
            unclosed[-1].append(word)
    if len(unclosed) != 1 or len(unclosed[0]) != 1 or not isinstance(unclosed[0][0], tuple):
        raise NoText("a sieve is one pair of brackets")
    return unclosed[0][0]


def sieve_of(things):
    """The sieve in whose brackets these words, and sieves, stand."""
    word = things[0] if len(things) > 0 else None
    inner = things[1:]
    if word == "every" and len(inner) == 0:
        return ("every",)
    if word in COLUMN_WORDS and len(inner) == 2 and are_words(inner):
        return (word, inner[0], value_in_word(inner[1]))
    if word == "key" and are_words(inner):
        return ("key", tuple(inner))
    if word == "not" and len(inner) == 1 and are_sieves(inner):
        return ("not", inner[0])
    if word in ("and", "or") and are_sieves(inner):
        return (word, tuple(inner))
    raise NoText("a sieve is not written so")


def are_words(things):
    return all([isinstance(thing, str) for thing in things])


def are_sieves(things):
    return all([isinstance(thing, tuple) for thing in things])


def words_of(text):
    if not isinstance(text, str):
        raise NoText("what is read is a text")
    return text.split(" ")


def check_names(words):
    if "(" in words or ")" in words:
        raise NoText("a bracket stands where a name or its like should")


def value_in_word(word):
    if not is_value_text(word):
        raise NoText("a value is not written so")
    return value_of_text(word)
