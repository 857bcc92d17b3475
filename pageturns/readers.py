"""Readers: pages of a shelf as it stands now, handed out with marks that say where to go on."""

from pageturns.errors import BadSize, NoMark, OldMark
from pageturns.marks import mark_text, read_mark
from pageturns.pages import gaps_behind, page_back, page_on
from pageturns.values import is_whole


class Reader:
    def __init__(self, shelf, age):
        if not is_whole(age) or age < 0:
            raise BadSize("an age is a whole number from 0 on")
        self.shelf = shelf
        self.age = age

    def first(self, order, sieve, size):
        return self.with_marks(order, page_on(self.shelf, order, sieve, size), None)

    def last(self, order, sieve, size):
        return self.with_marks(order, page_back(self.shelf, order, sieve, size), None)

    def on(self, text, sieve, size):
        mark = self.good_mark(text)
        return self.with_marks(mark[1], page_on(self.shelf, mark[1], sieve, size, mark[2]), mark[2])

    def back(self, text, sieve, size):
        mark = self.good_mark(text)
        return self.with_marks(mark[1], page_back(self.shelf, mark[1], sieve, size, mark[2]), mark[2])

    def good_mark(self, text):
        mark = read_mark(self.shelf.has_columns(), text)
        if mark[0] > self.shelf.now():
            raise NoMark("the moment of the mark is above now")
        if self.shelf.now() - mark[0] > self.age:
            raise OldMark("the mark is older than the age")
        return mark

    def with_marks(self, order, page, asked_from):
        gaps = gaps_behind(self.shelf.has_columns(), order, page, asked_from)
        return page + (self.mark_now(order, gaps[0]), self.mark_now(order, gaps[1]))

    def mark_now(self, order, gap):
        return None if gap is None else mark_text((self.shelf.now(), order, gap))
