"""Keepers: rows that come by deeds, told in one order."""

from pageturns.answers import plain
from pageturns.deeds import do_deed
from pageturns.orders import check_order
from pageturns.pages import page_back, page_on
from pageturns.shelves import Shelf


class Keeper:
    def __init__(self, columns, order):
        # A shelf of its own: so the keeper refuses and tells as one to which the same deeds were done.
        self.shelf = Shelf(columns)
        check_order(columns, order)
        self.order = order

    def feed(self, deed):
        do_deed(self.shelf, deed)

    def all_rows(self):
        return plain(self.shelf, self.order, ("every",))

    def on(self, sieve, size, gap=None):
        return page_on(self.shelf, self.order, sieve, size, gap)

    def back(self, sieve, size, gap=None):
        return page_back(self.shelf, self.order, sieve, size, gap)
