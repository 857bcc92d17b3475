"""Faults of walks: what a walk was told, page by page, and what it should have been told."""

from pageturns.answers import ordered_answer
from pageturns.columns import check_row
from pageturns.deeds import is_done
from pageturns.errors import BadDeed, BadRow
from pageturns.orders import check_order, is_ahead, place_of
from pageturns.pages import count_ahead
from pageturns.shelves import Shelf
from pageturns.sieves import check_sieve, passes


def walk_fault(columns, order, sieve, events):
    trail = Trail(columns, order, sieve)
    if not isinstance(events, list):
        raise BadDeed("events are a list")
    for place, event in enumerate(events):
        if is_page_event(columns, event):
            fault = trail.page_fault(event[1])
            if fault is not None:
                return (fault[0], place, fault[1])
        elif not is_done(trail.shelf, event):
            return ("event", place)
    return None


def is_page_event(columns, thing):
    if not isinstance(thing, tuple) or len(thing) != 2:
        return False
    if not isinstance(thing[0], str) or thing[0] != "page":
        return False
    return isinstance(thing[1], list) and all([is_row(columns, row) for row in thing[1]])


def is_row(columns, thing):
    try:
        check_row(columns, thing)
    except BadRow:
        return False
    return True


# It holds how far a walk that only goes on has come: to the gap behind the last row that it was told.
class Trail:
    def __init__(self, columns, order, sieve):
        self.shelf = Shelf(columns)
        check_order(columns, order)
        check_sieve(columns, sieve)
        self.order = order
        self.sieve = sieve
        self.hinder = None

    def page_fault(self, rows):
        """A word and a key, or None."""
        answer = ordered_answer(self.shelf, self.order, self.sieve, None)
        if len(rows) == 0:
            return missed_unless(None, self.first_behind(answer))
        for row in rows:
            fault = self.row_fault(answer, row)
            if fault is not None:
                return fault
            self.hinder = (self.place_at(row), "behind")
        return None

    def row_fault(self, answer, row):
        if self.shelf.worths_at(row[0]) != row[1] or not passes(self.shelf.has_columns(), self.sieve, row):
            return ("strange", row[0])
        if self.hinder is not None and is_ahead(self.order, self.place_at(row), self.hinder):
            return ("order", row[0])
        # The row is one of the answer's behind the gap: where another one is the first there, it was left out.
        return missed_unless(row[0], self.first_behind(answer))

    def first_behind(self, answer):
        """The key of the first row of the answer behind the gap, or None."""
        begin = 0
        if self.hinder is not None:
            begin = count_ahead(self.shelf.has_columns(), self.order, answer, self.hinder)
        return answer[begin][0] if begin < len(answer) else None

    def place_at(self, row):
        return place_of(self.shelf.has_columns(), self.order, row)


def missed_unless(told, due):
    return None if told == due else ("missed", due)
