"""The desk: lines that are told to a shelf and a reader of it, each answered by a text."""

from pageturns.answers import count_of, plain
from pageturns.errors import NoLine, NoText
from pageturns.marks import is_moment_text
from pageturns.readers import Reader
from pageturns.shelves import Shelf
from pageturns.sieves import check_sieve
from pageturns.texts import columns_in, order_in, row_in, show_row, sieve_in

FIRST_AGE = 1000
# How many parts may stand behind a line's first word.
PARTS = {
    "columns": (1,), "age": (1,), "put": (1,), "change": (1,), "take": (1,),
    "first": (3,), "last": (3,), "on": (3,), "back": (3,), "plain": (2, 3), "count": (1, 2),
}


class Desk:
    def __init__(self):
        self.shelf = None
        self.reader = None

    def say(self, line):
        parts = line_parts(line)
        word = parts[0]
        if word == "columns":
            return self.begin(parts[1])
        if self.shelf is None:
            raise NoLine("there is no shelf yet")
        if word == "now":
            return str(self.shelf.now())
        if word in ("first", "last"):
            return self.end_page(word, parts[1], parts[2], parts[3])
        if word in ("on", "back"):
            return self.marked_page(word, parts[1], parts[2], parts[3])
        if word == "plain":
            return self.plain_text(parts)
        if word == "count":
            return self.count_text(parts)
        return self.do(word, parts[1])

    def begin(self, text):
        self.shelf = Shelf(columns_in(text))
        self.reader = Reader(self.shelf, FIRST_AGE)
        return "ok"

    def do(self, word, text):
        if word == "age":
            self.reader = Reader(self.shelf, number_in(text))
        elif word == "take":
            self.shelf.take(text)
        elif word == "put":
            row = row_in(text)
            self.shelf.put(row[0], row[1])
        else:
            row = row_in(text)
            self.shelf.change(row[0], row[1])
        return "ok"

    def end_page(self, word, size_text, order_text, sieve_text):
        size = number_in(size_text)
        order = order_in(order_text)
        sieve = sieve_in(sieve_text)
        if word == "first":
            return page_text(self.reader.first(order, sieve, size))
        return page_text(self.reader.last(order, sieve, size))

    def marked_page(self, word, size_text, sieve_text, mark):
        size = number_in(size_text)
        sieve = sieve_in(sieve_text)
        # A reader refuses marks ahead of sieves, a desk the other way round.
        check_sieve(self.shelf.has_columns(), sieve)
        if word == "on":
            return page_text(self.reader.on(mark, sieve, size))
        return page_text(self.reader.back(mark, sieve, size))

    def plain_text(self, parts):
        moment = number_in(parts[1]) if len(parts) == 4 else None
        order = order_in(parts[-2])
        sieve = sieve_in(parts[-1])
        return "\n".join([show_row(row) for row in plain(self.shelf, order, sieve, moment)])

    def count_text(self, parts):
        moment = number_in(parts[1]) if len(parts) == 3 else None
        return str(count_of(self.shelf, sieve_in(parts[-1]), moment))


def line_parts(line):
    """A line's first word, and the parts behind it."""
    if not isinstance(line, str):
        raise NoLine("a line is a text")
    if line == "now":
        return [line]
    parts = line.split(" | ")
    head = parts[0].partition(" ")
    if head[1] == "" or len(parts) not in PARTS.get(head[0], ()):
        raise NoLine("no line has these words and parts")
    return [head[0], head[2]] + parts[1:]


def number_in(text):
    if not is_moment_text(text):
        raise NoText("a number is written by figures, at most eighteen, without a 0 ahead")
    return int(text)


def page_text(page):
    counts = [str(page[1]), str(len(page[0])), str(page[2])]
    rows = [show_row(row) for row in page[0]]
    marks = ["back " + mark_or_none(page[3]), "on " + mark_or_none(page[4])]
    return "\n".join([" ".join(counts)] + rows + marks)


def mark_or_none(mark):
    return "none" if mark is None else mark
