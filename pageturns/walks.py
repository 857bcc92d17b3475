"""Walks: pages of a shelf as it stands then, each on or back from where the walk stands."""

from pageturns.answers import ordered_answer
from pageturns.orders import check_order, turned, turned_gap
from pageturns.pages import check_size, count_ahead, gaps_behind, page_from, page_up_to
from pageturns.sieves import check_sieve

START = "start"
END = "end"


class Walk:
    def __init__(self, shelf, order, sieve, size):
        check_order(shelf.has_columns(), order)
        check_sieve(shelf.has_columns(), sieve)
        check_size(size)
        self.shelf = shelf
        self.order = order
        self.sieve = sieve
        self.size = size
        self.fore = START
        self.hinder = START

    def on(self):
        return self.step_on(self.hinder)

    def back(self):
        return self.step_back(self.fore)

    def first(self):
        return self.step_on(START)

    def last(self):
        return self.step_back(END)

    def again(self):
        answer = self.answer_now()
        return answer[self.many_ahead(answer, self.fore):self.many_ahead(answer, self.hinder)]

    def turn(self):
        fore = turned_stand(self.hinder)
        self.hinder = turned_stand(self.fore)
        self.fore = fore
        self.order = turned(self.order)

    def sieve_by(self, sieve):
        check_sieve(self.shelf.has_columns(), sieve)
        self.sieve = sieve

    def size_by(self, size):
        check_size(size)
        self.size = size

    def stands(self):
        return (self.order, self.sieve, self.size, self.fore, self.hinder)

    def step_on(self, stand):
        answer = self.answer_now()
        page = page_from(answer, self.many_ahead(answer, stand), self.size)
        self.stand_behind(page, stand)
        return page

    def step_back(self, stand):
        answer = self.answer_now()
        page = page_up_to(answer, self.many_ahead(answer, stand), self.size)
        self.stand_behind(page, stand)
        return page

    def answer_now(self):
        return ordered_answer(self.shelf, self.order, self.sieve, None)

    def many_ahead(self, answer, stand):
        if stand == START:
            return 0
        if stand == END:
            return len(answer)
        return count_ahead(self.shelf.has_columns(), self.order, answer, stand)

    def stand_behind(self, page, asked_from):
        gaps = gaps_behind(self.shelf.has_columns(), self.order, page, asked_from)
        self.fore = gaps[0]
        self.hinder = gaps[1]


def turned_stand(stand):
    if stand == START:
        return END
    if stand == END:
        return START
    return turned_gap(stand)
