import itertools
import random
import unittest

from helper import (
    BY_KEY, BY_PRICE, EVERY, GOODS, NOTHING, SIXTY, CheckTest, all_orders, any_deed, keys_of, other_things,
    shelf_of_eight,
)
from pageturns.answers import plain
from pageturns.deeds import do_deed
from pageturns.errors import BadColumns, BadDeed, BadOrder, BadPlace, BadRow, BadSieve, BadSize, HasKey, NoKey
from pageturns.keepers import Keeper
from pageturns.orders import place_of, turned, turned_gap
from pageturns.pages import gaps_of, page_back, page_on
from pageturns.shelves import Shelf

ORDERS = all_orders(()) + all_orders(("price",)) + all_orders(("maker", "price"))[::7]
SIEVES = (EVERY, NOTHING, ("not", ("is", "price", 1)), ("begins", "maker", "a"))
KEYS = tuple("abcdefghij")
PEN = (((5,), "pen"), "ahead")


def keeper_fed(deeds, order=BY_PRICE):
    keeper = Keeper(GOODS, order)
    for deed in deeds:
        keeper.feed(deed)
    return keeper


def some_keeper(order=BY_PRICE):
    """By price down, None last: a2 ink bag box pen a10 cap rod."""
    return keeper_fed(shelf_of_eight().history(), order)


class MadeTest(CheckTest):
    def test_without_rows(self):
        for columns, order in (((), BY_KEY), (GOODS, BY_KEY), (GOODS, BY_PRICE)):
            keeper = Keeper(columns, order)
            self.assertEqual(keeper.all_rows(), [])
            self.assertEqual(keeper.on(EVERY, 1), ([], 0, 0))
            self.assertEqual(keeper.back(EVERY, 1), ([], 0, 0))

    def test_columns_and_orders_that_are_none(self):
        for thing in [None, 0, "", ("price", "number"), (("price", "text"),), GOODS + GOODS] + other_things():
            self.hold_bad(BadColumns, Keeper, thing, BY_KEY)
        for thing in [None, 0, "", (), ((("cost", "up", "last"),), "up"), ((), "Up")] + other_things():
            self.hold_bad(BadOrder, Keeper, GOODS, thing)
        self.hold_bad(BadOrder, Keeper, (), BY_PRICE)

    def test_of_both_the_first_one_is_raised(self):
        self.hold_first(
            (Keeper,), ((GOODS,), (BY_PRICE,)), ((None, (("Price", "number"),)), (None, ((), "Up"))),
            (BadColumns, BadOrder),
        )


class FedTest(CheckTest):
    def test_each_deed(self):
        keeper = Keeper(GOODS, BY_PRICE)
        self.assertIsNone(keeper.feed(("put", "pen", (5, "acme"))))
        self.assertIsNone(keeper.feed(("put", "ink", (7, None))))
        self.assertEqual(keeper.all_rows(), [("ink", (7, None)), ("pen", (5, "acme"))])
        self.assertIsNone(keeper.feed(("change", "pen", (9, ""))))
        self.assertEqual(keeper.all_rows(), [("pen", (9, "")), ("ink", (7, None))])
        self.assertIsNone(keeper.feed(("change", "pen", (9, ""))))
        self.assertEqual(keeper.all_rows(), [("pen", (9, "")), ("ink", (7, None))])
        self.assertIsNone(keeper.feed(("take", "pen")))
        self.assertEqual(keeper.all_rows(), [("ink", (7, None))])
        self.assertIsNone(keeper.feed(("put", "pen", (5, None))))
        self.assertEqual(keeper.all_rows(), [("ink", (7, None)), ("pen", (5, None))])

    def test_no_columns(self):
        keeper = Keeper((), ((), "down"))
        keeper.feed(("put", "a", ()))
        keeper.feed(("put", "b", ()))
        self.assertEqual(keeper.all_rows(), [("b", ()), ("a", ())])
        self.hold_bad(BadRow, keeper.feed, ("put", "c", (5,)))

    def test_what_is_no_deed(self):
        keeper = some_keeper()
        rows = keeper.all_rows()
        worths = (5, "acme")
        for deed in [
            None, 0, "", "put", "put new 5", (), ("put",), ("put", "new"), ("put", "new", worths, worths),
            ("change", "pen"), ("change", "pen", worths, 1), ("change",), ("take",), ("take", "pen", worths),
            ("take", "pen", None, None), ["put", "new", worths], ["take", "pen"], ("Put", "new", worths),
            ("puts", "new", worths), ("put ", "new", worths), ("", "pen"), ("asked", 1, ()), ("told", 1, ()),
            ("page", []), (None, "pen"), (0, "pen"), (("take",), "pen"), (b"take", "pen"), (True, "pen", worths),
        ] + other_things():
            self.hold_bad(BadDeed, keeper.feed, deed)
        for thing in other_things():
            self.hold_bad(BadDeed, keeper.feed, (thing, "pen"))
            self.hold_bad(BadDeed, keeper.feed, (thing, "new", worths))
        self.assertEqual(keeper.all_rows(), rows)

    def test_what_a_shelf_refuses(self):
        keeper = some_keeper()
        rows = keeper.all_rows()
        pages = (keeper.on(EVERY, 3), keeper.back(EVERY, 3))
        for deed, error in (
            (("put", "pen", (5, "acme")), HasKey), (("put", "pen", (1, None)), HasKey),
            (("change", "new", (5, "acme")), NoKey), (("take", "new"), NoKey),
            (("put", "new", (5,)), BadRow), (("put", "New", (5, "acme")), BadRow), (("put", None, None), BadRow),
            (("put", "new", [5, "acme"]), BadRow), (("put", "new", (True, "acme")), BadRow),
            (("change", "pen", ("5", "acme")), BadRow), (("change", "", (5, "acme")), BadRow),
            (("take", "Pen"), BadRow), (("take", None), BadRow), (("take", ("pen",)), BadRow),
            # Where two are due: a row that is none goes ahead of keys, the form ahead of all.
            (("put", "pen", (5,)), BadRow), (("change", "new", (5,)), BadRow), (("put", "New"), BadDeed),
            (("put", "pen", (5,), 1), BadDeed), (("take", "New", 1), BadDeed),
        ):
            self.hold_bad(error, keeper.feed, deed)
        for thing in other_things():
            self.hold_bad(BadRow, keeper.feed, ("put", thing, (5, "acme")))
            self.hold_bad(BadRow, keeper.feed, ("put", "new", thing))
            self.hold_bad(BadRow, keeper.feed, ("change", "pen", thing))
            self.hold_bad(BadRow, keeper.feed, ("take", thing))
        self.assertEqual(keeper.all_rows(), rows)
        self.assertEqual((keeper.on(EVERY, 3), keeper.back(EVERY, 3)), pages)
        keeper.feed(("take", "pen"))
        self.hold_bad(NoKey, keeper.feed, ("take", "pen"))
        self.hold_bad(NoKey, keeper.feed, ("change", "pen", (5, None)))


class OrderTest(unittest.TestCase):
    def hold(self, order, keys):
        self.assertEqual(keys_of(some_keeper(order).all_rows()), keys)

    def test_both_ways_and_both_ends_with_ties(self):
        self.hold(((), "up"), "a10 a2 bag box cap ink pen rod")
        self.hold(((), "down"), "rod pen ink cap box bag a2 a10")
        self.hold(((("price", "up", "first"),), "up"), "cap rod a10 bag box pen a2 ink")
        self.hold(((("price", "up", "last"),), "down"), "a10 pen box bag ink a2 rod cap")
        self.hold(((("price", "down", "first"),), "up"), "cap rod a2 ink bag box pen a10")
        self.hold(((("price", "down", "last"),), "down"), "ink a2 pen box bag a10 rod cap")
        self.hold(((("maker", "up", "first"), ("price", "down", "last")), "up"), "bag rod a2 ink box pen a10 cap")

    def test_changes_that_move_a_row(self):
        keeper = some_keeper()
        for worths, keys in (
            ((9, None), "box a2 ink bag pen a10 cap rod"), ((7, None), "a2 box ink bag pen a10 cap rod"),
            ((None, None), "a2 ink bag pen a10 box cap rod"), ((-SIXTY, ""), "a2 ink bag pen a10 box cap rod"),
            ((SIXTY, ""), "box a2 ink bag pen a10 cap rod"), ((5, "zz"), "a2 ink bag box pen a10 cap rod"),
        ):
            keeper.feed(("change", "box", worths))
            self.assertEqual(keys_of(keeper.all_rows()), keys)


class PageTest(CheckTest):
    def hold(self, page, keys, ahead, behind):
        self.assertEqual((type(page), len(page), type(page[0])), (tuple, 3, list))
        self.assertEqual((keys_of(page[0]),) + page[1:], (keys, ahead, behind))

    def test_from_no_gap(self):
        keeper = some_keeper()
        self.hold(keeper.on(EVERY, 3), "a2 ink bag", 0, 5)
        self.hold(keeper.on(EVERY, 3, None), "a2 ink bag", 0, 5)
        self.hold(keeper.back(EVERY, 3), "a10 cap rod", 5, 0)
        self.hold(keeper.back(EVERY, 3, None), "a10 cap rod", 5, 0)
        self.hold(keeper.on(NOTHING, 3), "", 0, 0)
        self.hold(keeper.back(("is", "price", 5), 2), "box pen", 1, 0)

    def test_from_gaps(self):
        keeper = some_keeper()
        self.hold(keeper.on(EVERY, 2, PEN), "pen a10", 4, 2)
        self.hold(keeper.back(EVERY, 2, PEN), "bag box", 2, 4)
        behind = (PEN[0], "behind")
        self.hold(keeper.on(EVERY, 1000, behind), "a10 cap rod", 5, 0)
        self.hold(keeper.back(EVERY, 1, behind), "pen", 4, 3)
        self.hold(keeper.on(EVERY, 2, (((6,), "zz"), "behind")), "bag box", 2, 4)
        self.hold(keeper.on(EVERY, 2, (((None,), "zz"), "ahead")), "", 8, 0)
        self.hold(keeper.back(EVERY, 2, (((SIXTY,), "a"), "ahead")), "", 0, 8)

    def test_refusals(self):
        keeper = some_keeper()
        asks = (keeper.on, keeper.back)
        for ask in asks:
            for thing in [None, (), "every", 0, ("is", "cost", 5)] + other_things():
                self.hold_bad(BadSieve, ask, thing, 3)
            for thing in [0, -1, 1001, SIXTY, None, "3", ()] + other_things():
                self.hold_bad(BadSize, ask, EVERY, thing)
            for thing in [
                (), 0, "", "start", PEN[0], (PEN[0],), (PEN[0], "up"), [PEN[0], "ahead"], (((), "pen"), "ahead"),
                (((5, 5), "pen"), "ahead"), ((("5",), "pen"), "ahead"), (((5,), "Pen"), "ahead"), PEN + PEN,
            ] + other_things():
                self.hold_bad(BadPlace, ask, EVERY, 3, thing)
        self.hold_first(
            asks, ((EVERY,), (3,), (None, PEN)),
            ((None, ("not", ())), (0, "3"), ((), (((5,), "pen"), "at"))), (BadSieve, BadSize, BadPlace),
        )


class KeptTest(unittest.TestCase):
    """A keeper tells as the shelf to which the same deeds were done."""

    def gaps(self, shelf, order):
        rows = [("a", (5, "b")), ("zz", (None, None)), ("e", (0, "")), ("e", (-1, "aa"))]
        rows += [(key, standing[2]) for key in KEYS[:4] for standing in shelf.standings_of(key)[-2:]]
        return [None] + [(place_of(GOODS, order, row), side) for row in rows for side in ("ahead", "behind")]

    def hold_same(self, keeper, shelf, order):
        self.assertEqual(keeper.all_rows(), plain(shelf, order, EVERY))
        for sieve, size, gap in itertools.product(SIEVES, (1, 3, 1000), self.gaps(shelf, order)):
            self.assertEqual(keeper.on(sieve, size, gap), page_on(shelf, order, sieve, size, gap))
            self.assertEqual(keeper.back(sieve, size, gap), page_back(shelf, order, sieve, size, gap))

    def test_any_deeds(self):
        chance = random.Random(11)
        for _ in range(30):
            shelf = Shelf(GOODS)
            order = chance.choice(ORDERS)
            keeper = Keeper(GOODS, order)
            for number in range(40):
                deed = any_deed(chance, shelf, KEYS)
                do_deed(shelf, deed)
                keeper.feed(deed)
                if number % 13 == 0:
                    self.hold_same(keeper, shelf, order)
            self.hold_same(keeper, shelf, order)

    def test_pages_laid_end_to_end_are_all_rows(self):
        for order in ORDERS:
            keeper = some_keeper(order)
            for size in (1, 3, 1000):
                rows = []
                page = keeper.on(EVERY, size)
                while page[0]:
                    rows += page[0]
                    page = keeper.on(EVERY, size, gaps_of(GOODS, order, page)[1])
                self.assertEqual(rows, keeper.all_rows())

    def test_pages_back_are_pages_on_of_the_order_turned_over(self):
        for order in ORDERS:
            keeper = some_keeper(order)
            other = some_keeper(turned(order))
            self.assertEqual(other.all_rows(), keeper.all_rows()[::-1])
            for gap in self.gaps(shelf_of_eight(), order):
                rows, ahead, behind = other.on(EVERY, 3, None if gap is None else turned_gap(gap))
                self.assertEqual(keeper.back(EVERY, 3, gap), (rows[::-1], behind, ahead))


class UnchangedTest(CheckTest):
    def test_lists_that_were_told_are_the_askers_own(self):
        keeper = some_keeper()
        for ask in (
            keeper.all_rows, lambda: keeper.on(EVERY, 1000)[0], lambda: keeper.back(EVERY, 3, PEN)[0],
            lambda: keeper.on(NOTHING, 3)[0],
        ):
            self.hold_own(ask)
        self.assertEqual(keys_of(keeper.all_rows()), "a2 ink bag box pen a10 cap rod")

    def test_two_keepers_and_the_deeds_handed_in(self):
        deeds = shelf_of_eight().history()
        keeper = keeper_fed(deeds)
        other = keeper_fed(deeds, BY_KEY)
        keeper.feed(("take", "a2"))
        self.assertEqual(deeds, shelf_of_eight().history())
        self.assertEqual(keys_of(other.all_rows()), "a10 a2 bag box cap ink pen rod")
        deeds.clear()
        self.assertEqual(keys_of(keeper.all_rows()), "ink bag box pen a10 cap rod")


if __name__ == "__main__":
    unittest.main()
