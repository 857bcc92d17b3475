import itertools
import unittest
from functools import partial

from helper import (
    BY_KEY, BY_PRICE, EVERY, GOODS, NOTHING, SIXTY, CheckTest, all_orders, keys_of, other_things, shelf_of_eight,
)
from pageturns.answers import plain
from pageturns.errors import BadOrder, BadPlace, BadSieve, BadSize, NoMoment
from pageturns.orders import is_ahead, place_of, turned, turned_gap
from pageturns.pages import gaps_of, page_back, page_on, stretch
from pageturns.shelves import Shelf

# Of the thirty-two orders by two columns a few, with each way and end among them.
ORDERS = all_orders(()) + all_orders(("price",)) + all_orders(("maker", "price"))[::7]
SIEVES = (EVERY, NOTHING, ("not", ("is", "price", 5)), ("begins", "maker", "a"))
MOMENTS = (None, 0, 1, 8, 9)
SIZES = ((1,), (2,), (3,), (7,), (8,), (9,), (1000,), (1, 2, 3), (3, 1, 1000))

# Two of each sort: what 17 and 18 refuse, in the order in which they are told.
NO_ORDERS = (None, ((("cost", "up", "first"),), "up"))
NO_SIEVES = (None, ("below", "price", None))
NO_SIZES = (0, None)
NO_GAPS = ((), (((5, 5), "pen"), "ahead"))
NO_MOMENTS = (-1, "0")


def some_shelf():
    """By price down, None last, at moment 8: a2 ink bag box pen a10 cap rod. Now is 10."""
    shelf = shelf_of_eight()
    shelf.change("pen", (9, "bolt"))
    shelf.take("rod")
    return shelf


SHELF = some_shelf()


def places_of(order):
    """Places of rows and of none, ahead of all and behind all among them."""
    columns = dict(GOODS)
    choices = [(None, -8, 5, 7, 10) if columns[name] == "number" else (None, "acme", "b") for name, _, _ in order[0]]
    rows = [row for moment in (8, 10) for row in SHELF.all_at(moment)]
    made = [(values, key) for values in itertools.product(*choices) for key in ("a", "bag", "zz")]
    return [place_of(GOODS, order, row) for row in rows] + made


def gaps_at(order):
    return [(place, side) for place in places_of(order) for side in ("ahead", "behind")]


def rows_parted(order, rows, gap):
    """The rows ahead of a gap and those behind it."""
    sides = [is_ahead(order, place_of(GOODS, order, row), gap) for row in rows]
    return [row for row, side in zip(rows, sides) if side], [row for row, side in zip(rows, sides) if not side]


class PageTest(unittest.TestCase):
    def hold(self, page, keys, ahead, behind):
        self.assertIs(type(page), tuple)
        self.assertEqual(len(page), 3)
        self.assertIs(type(page[0]), list)
        self.assertEqual((keys_of(page[0]), page[1], page[2]), (keys, ahead, behind))
        self.assertEqual((type(page[1]), type(page[2])), (int, int))

    def on(self, size, gap=None, sieve=EVERY):
        return page_on(SHELF, BY_PRICE, sieve, size, gap, 8)

    def back(self, size, gap=None, sieve=EVERY):
        return page_back(SHELF, BY_PRICE, sieve, size, gap, 8)

    def test_from_ahead_of_all_and_behind_all(self):
        self.hold(self.on(3), "a2 ink bag", 0, 5)
        self.hold(self.back(3), "a10 cap rod", 5, 0)
        self.hold(self.on(1), "a2", 0, 7)
        self.hold(self.back(1), "rod", 7, 0)
        self.hold(self.on(8), "a2 ink bag box pen a10 cap rod", 0, 0)
        for size in (8, 9, 1000):
            self.assertEqual(self.on(size), self.back(size))

    def test_gaps_at_a_rows_place_on_both_sides(self):
        box = ((5,), "box")
        self.hold(self.on(2, (box, "ahead")), "box pen", 3, 3)
        self.hold(self.on(2, (box, "behind")), "pen a10", 4, 2)
        self.hold(self.back(2, (box, "ahead")), "ink bag", 1, 5)
        self.hold(self.back(2, (box, "behind")), "bag box", 2, 4)

    def test_gaps_at_places_of_no_row(self):
        for side in ("ahead", "behind"):
            self.hold(self.on(2, (((6,), "zz"), side)), "bag box", 2, 4)
            self.hold(self.back(2, (((6,), "zz"), side)), "a2 ink", 0, 6)
            self.hold(self.on(2, (((5,), "bz"), side)), "pen a10", 4, 2)
            self.hold(self.back(2, (((5,), "bz"), side)), "bag box", 2, 4)
            self.hold(self.on(9, (((None,), "d"), side)), "rod", 7, 0)

    def test_gaps_ahead_of_all_rows_and_behind_all(self):
        for gap in ((((8,), "a"), "behind"), (((7,), "a2"), "ahead"), (((SIXTY,), "z"), "ahead")):
            self.assertEqual(self.on(3, gap), self.on(3))
            self.hold(self.back(3, gap), "", 0, 8)
        for gap in ((((None,), "z"), "ahead"), (((None,), "rod"), "behind")):
            self.assertEqual(self.back(3, gap), self.back(3))
            self.hold(self.on(3, gap), "", 8, 0)

    def test_fewer_rows_than_asked(self):
        self.hold(self.on(3, (((-7,), "a10"), "behind")), "cap rod", 6, 0)
        self.hold(self.back(3, (((7,), "ink"), "behind")), "a2 ink", 0, 6)
        self.hold(self.on(1000, (((5,), "pen"), "ahead")), "pen a10 cap rod", 4, 0)

    def test_only_rows_of_the_answer_are_counted(self):
        five = ("is", "price", 5)
        self.hold(self.on(2, None, five), "bag box", 0, 1)
        self.hold(self.on(2, (((5,), "bag"), "behind"), five), "box pen", 1, 0)
        self.hold(self.back(1, (((5,), "pen"), "ahead"), five), "box", 1, 1)
        self.hold(self.on(2, (((7,), "ink"), "behind"), five), "bag box", 0, 1)
        self.hold(self.on(2, (((-7,), "a10"), "behind"), five), "", 3, 0)

    def test_no_rows_at_all(self):
        gap = (((5,), "pen"), "behind")
        for sieve, moment in ((NOTHING, 8), (NOTHING, None), (EVERY, 0)):
            for ask in (page_on, page_back):
                for bound in (None, gap):
                    self.hold(ask(SHELF, BY_PRICE, sieve, 5, bound, moment), "", 0, 0)
        self.hold(page_on(Shelf(()), BY_KEY, EVERY, 1), "", 0, 0)
        self.hold(page_back(Shelf(()), BY_KEY, EVERY, 1), "", 0, 0)

    def test_rows_are_told_as_they_stood(self):
        self.assertEqual(page_on(SHELF, BY_PRICE, EVERY, 1, None, 9)[0], [("pen", (9, "bolt"))])
        self.assertEqual(page_on(SHELF, BY_PRICE, ("key", ("pen",)), 1, None, 8)[0], [("pen", (5, "acme"))])

    def test_no_moment_is_now(self):
        gap = (((7,), "ink"), "ahead")
        for ask in (page_on, page_back):
            right = ask(SHELF, BY_PRICE, EVERY, 2, gap, 10)
            self.assertEqual(ask(SHELF, BY_PRICE, EVERY, 2, gap), right)
            self.assertEqual(ask(SHELF, BY_PRICE, EVERY, 2, gap, None), right)
            self.assertEqual(ask(SHELF, BY_PRICE, EVERY, 2), ask(SHELF, BY_PRICE, EVERY, 2, None, 10))

    def test_every_gap_beside_the_plain_answer(self):
        for order, sieve in itertools.product(ORDERS, SIEVES):
            answer = plain(SHELF, order, sieve, 8)
            for gap in gaps_at(order):
                ahead, behind = rows_parted(order, answer, gap)
                for size in (1, 3, 1000):
                    with self.subTest(order=order, sieve=sieve, gap=gap, size=size):
                        rows = behind[:size]
                        right = (rows, len(ahead), len(behind) - len(rows))
                        self.assertEqual(page_on(SHELF, order, sieve, size, gap, 8), right)
                        rows = ahead[-size:]
                        right = (rows, len(ahead) - len(rows), len(behind))
                        self.assertEqual(page_back(SHELF, order, sieve, size, gap, 8), right)

    def test_three_hundred_rows(self):
        shelf = Shelf((("price", "number"),))
        for number in range(300):
            shelf.put("k" + str(number), (number % 7,))
        answer = plain(shelf, BY_PRICE, EVERY)
        self.assertEqual(page_on(shelf, BY_PRICE, EVERY, 1000), (answer, 0, 0))
        gap = (place_of((("price", "number"),), BY_PRICE, answer[150]), "ahead")
        self.assertEqual(page_on(shelf, BY_PRICE, EVERY, 10, gap), (answer[150:160], 150, 140))
        self.assertEqual(page_back(shelf, BY_PRICE, EVERY, 10, gap), (answer[140:150], 140, 150))


class EndToEndTest(unittest.TestCase):
    def pages(self, ask, order, sieve, sizes, moment):
        """Pages to the first one without rows, each from a gap of the one told ahead: its hinder one to go on."""
        pages = []
        gap = None
        for size in itertools.cycle(sizes):
            page = ask(SHELF, order, sieve, size, gap, moment)
            pages.append(page)
            if not page[0]:
                return pages
            gap = gaps_of(GOODS, order, page)[ask is page_on]

    def hold(self, pages, sizes, answer):
        rows = []
        for page, size in zip(pages, itertools.cycle(sizes)):
            self.assertEqual(page[1], len(rows))
            self.assertEqual(len(page[0]), min(size, len(answer) - len(rows)))
            rows.extend(page[0])
            self.assertEqual(page[2], len(answer) - len(rows))
        self.assertEqual(rows, answer)

    def test_pages_laid_end_to_end_are_the_plain_answer(self):
        for order, sieve, sizes, moment in itertools.product(ORDERS, SIEVES, SIZES, MOMENTS):
            with self.subTest(order=order, sieve=sieve, sizes=sizes, moment=moment):
                answer = plain(SHELF, order, sieve, moment)
                self.hold(self.pages(page_on, order, sieve, sizes, moment), sizes, answer)
                pages = self.pages(page_back, order, sieve, sizes, moment)
                self.hold([(rows[::-1], behind, ahead) for rows, ahead, behind in pages], sizes, answer[::-1])


class TurnedTest(unittest.TestCase):
    def test_an_order_turned_over_puts_all_rows_the_other_way_round(self):
        for order, sieve, moment in itertools.product(ORDERS, SIEVES, MOMENTS):
            answer = plain(SHELF, order, sieve, moment)
            self.assertEqual(plain(SHELF, turned(order), sieve, moment), answer[::-1])

    def test_a_page_back_is_the_page_on_of_the_order_turned_over(self):
        for order, sieve, size in itertools.product(ORDERS, SIEVES, (1, 3, 1000)):
            for gap in [None] + gaps_at(order):
                other = None if gap is None else turned_gap(gap)
                with self.subTest(order=order, sieve=sieve, size=size, gap=gap):
                    rows, ahead, behind = page_on(SHELF, turned(order), sieve, size, other, 8)
                    self.assertEqual(page_back(SHELF, order, sieve, size, gap, 8), (rows[::-1], behind, ahead))


class GapsTest(unittest.TestCase):
    def test_pages_with_several_rows_one_and_none(self):
        page = page_on(SHELF, BY_PRICE, EVERY, 3, None, 8)
        self.assertEqual(gaps_of(GOODS, BY_PRICE, page), ((((7,), "a2"), "ahead"), (((5,), "bag"), "behind")))
        page = page_back(SHELF, BY_PRICE, EVERY, 2, None, 8)
        self.assertEqual(gaps_of(GOODS, BY_PRICE, page), ((((None,), "cap"), "ahead"), (((None,), "rod"), "behind")))
        page = page_on(SHELF, BY_PRICE, EVERY, 1, None, 8)
        self.assertEqual(gaps_of(GOODS, BY_PRICE, page), ((((7,), "a2"), "ahead"), (((7,), "a2"), "behind")))
        for page in (page_on(SHELF, BY_PRICE, NOTHING, 3), page_back(SHELF, BY_PRICE, EVERY, 3, None, 0)):
            self.assertIsNone(gaps_of(GOODS, BY_PRICE, page))

    def test_by_keys_alone(self):
        page = page_on(SHELF, BY_KEY, EVERY, 2, None, 8)
        self.assertEqual(gaps_of(GOODS, BY_KEY, page), ((((), "a10"), "ahead"), (((), "a2"), "behind")))

    def test_between_a_pages_gaps_there_are_just_its_rows(self):
        for order, sieve, size in itertools.product(ORDERS, SIEVES, (1, 2, 5, 1000)):
            for gap in [None] + gaps_at(order)[:20]:
                for ask in (page_on, page_back):
                    page = ask(SHELF, order, sieve, size, gap, 8)
                    gaps = gaps_of(GOODS, order, page)
                    if gaps is None:
                        self.assertEqual(page[0], [])
                    else:
                        self.assertEqual(stretch(SHELF, order, sieve, gaps[0], gaps[1], 8), page[0])


class StretchTest(unittest.TestCase):
    def hold(self, keys, fore=None, hinder=None, sieve=EVERY):
        told = stretch(SHELF, BY_PRICE, sieve, fore, hinder, 8)
        self.assertIs(type(told), list)
        self.assertEqual(keys_of(told), keys)

    def test_bounds(self):
        bag = ((5,), "bag")
        pen = ((5,), "pen")
        self.hold("a2 ink bag box pen a10 cap rod")
        self.hold("bag box pen a10 cap rod", (bag, "ahead"))
        self.hold("box pen a10 cap rod", (bag, "behind"))
        self.hold("a2 ink bag box", None, (pen, "ahead"))
        self.hold("a2 ink bag box pen", None, (pen, "behind"))
        self.hold("bag box pen", (bag, "ahead"), (pen, "behind"))
        self.hold("box", (bag, "behind"), (pen, "ahead"))
        self.hold("bag", (bag, "ahead"), (bag, "behind"))
        self.hold("bag pen", (bag, "ahead"), (pen, "behind"), ("not", ("key", ("box",))))
        self.hold("bag box pen", (((6,), "zz"), "ahead"), (((0,), "a"), "behind"))
        self.hold("", None, None, NOTHING)

    def test_the_second_one_stands_ahead_of_the_first_one(self):
        for side, other in itertools.product(("ahead", "behind"), repeat=2):
            self.hold("", (((5,), "pen"), side), (((7,), "ink"), other))
            self.hold("", (((None,), "z"), side), (((9,), "a"), other))
        self.hold("", (((5,), "pen"), "behind"), (((5,), "pen"), "ahead"))
        self.hold("", (((5,), "pen"), "behind"), (((5,), "pen"), "behind"))
        self.hold("", (((5,), "pen"), "ahead"), (((5,), "pen"), "ahead"))

    def test_moments(self):
        bounds = ((((9,), "a"), "ahead"), (((7,), "zz"), "behind"))
        self.assertEqual(keys_of(stretch(SHELF, BY_PRICE, EVERY, bounds[0], bounds[1], 8)), "a2 ink")
        for given in ((9,), (10,), (None,), ()):
            self.assertEqual(keys_of(stretch(SHELF, BY_PRICE, EVERY, *bounds, *given)), "pen a2 ink")
        self.assertEqual(stretch(SHELF, BY_PRICE, EVERY, None, None, 0), [])
        self.assertEqual(stretch(SHELF, BY_PRICE, EVERY), plain(SHELF, BY_PRICE, EVERY))

    def test_every_two_gaps_beside_the_plain_answer(self):
        order = ((("price", "up", "first"),), "down")
        answer = plain(SHELF, order, EVERY, 8)
        gaps = [None] + gaps_at(order)
        for fore, hinder in itertools.product(gaps, gaps):
            right = [
                row for row in answer
                if (fore is None or not is_ahead(order, place_of(GOODS, order, row), fore))
                and (hinder is None or is_ahead(order, place_of(GOODS, order, row), hinder))
            ]
            self.assertEqual(stretch(SHELF, order, EVERY, fore, hinder, 8), right)


class RefusalTest(CheckTest):
    def bad(self, error, *given):
        for ask in (page_on, page_back):
            self.hold_bad(error, ask, SHELF, *given)

    def test_sizes(self):
        for size in (1, 2, 999, 1000):
            self.assertEqual(len(page_on(SHELF, BY_PRICE, EVERY, size, None, 8)[0]), min(size, 8))
            self.assertEqual(len(page_back(SHELF, BY_PRICE, EVERY, size, None, 8)[0]), min(size, 8))
        for size in [0, 1001, -1, -1000, SIXTY, -SIXTY, True, False, None, "", "5", (), (5,)] + other_things():
            self.bad(BadSize, BY_PRICE, EVERY, size)

    def test_orders_and_sieves_that_are_none(self):
        for thing in [None, (), "up", 5] + other_things():
            self.bad(BadOrder, thing, EVERY, 5)
            self.bad(BadSieve, BY_PRICE, thing, 5)
            self.hold_bad(BadOrder, stretch, SHELF, thing, EVERY)
            self.hold_bad(BadSieve, stretch, SHELF, BY_PRICE, thing)

    def test_gaps_that_are_none(self):
        pen = ((5,), "pen")
        for gap in [
            (), 0, 5, "", "ab", "start", pen, (pen,), (pen, "up"), (pen, "ahead", 1), [pen, "ahead"],
            ((5,), "ahead"), (("5",), "pen"), ((("5",), "pen"), "ahead"), (((True,), "pen"), "ahead"),
            (((), "pen"), "ahead"), (((5, 5), "pen"), "ahead"), (((5,), "Pen"), "ahead"), (None, "ahead"),
        ] + other_things():
            self.bad(BadPlace, BY_PRICE, EVERY, 5, gap)
            for given in ((gap,), (gap, None), (None, gap), (gap, (pen, "ahead")), ((pen, "ahead"), gap), (gap, gap)):
                self.hold_bad(BadPlace, stretch, SHELF, BY_PRICE, EVERY, *given)

    def test_moments_that_are_none(self):
        for moment in [-1, 11, SIXTY, "", "0", (), True, False] + other_things():
            self.bad(NoMoment, BY_PRICE, EVERY, 5, None, moment)
            self.bad(NoMoment, BY_PRICE, NOTHING, 5, (((5,), "pen"), "ahead"), moment)
            self.hold_bad(NoMoment, stretch, SHELF, BY_PRICE, EVERY, None, None, moment)

    def test_of_several_the_first_one_is_raised(self):
        gaps = (None, (((5,), "pen"), "ahead"))
        self.hold_first(
            (partial(page_on, SHELF), partial(page_back, SHELF)), ((BY_PRICE,), (EVERY,), (5,), gaps, (None, 8)),
            (NO_ORDERS, NO_SIEVES, NO_SIZES, NO_GAPS, NO_MOMENTS), (BadOrder, BadSieve, BadSize, BadPlace, NoMoment),
        )
        self.hold_first(
            (partial(stretch, SHELF),), ((BY_PRICE,), (EVERY,), gaps, gaps, (None, 8)),
            (NO_ORDERS, NO_SIEVES, NO_GAPS, NO_GAPS, NO_MOMENTS), (BadOrder, BadSieve, BadPlace, BadPlace, NoMoment),
        )


class UnchangedTest(CheckTest):
    def test_lists_that_were_told_are_the_askers_own(self):
        gap = (((5,), "bag"), "ahead")
        for ask in (
            lambda: page_on(SHELF, BY_PRICE, EVERY, 1000)[0], lambda: page_back(SHELF, BY_PRICE, EVERY, 3, gap)[0],
            lambda: page_on(SHELF, BY_PRICE, NOTHING, 3)[0], lambda: stretch(SHELF, BY_PRICE, EVERY),
            lambda: stretch(SHELF, BY_PRICE, EVERY, gap, None, 8),
        ):
            self.hold_own(ask)

    def test_telling_changes_nothing_of_the_shelf_and_of_the_page(self):
        shelf = some_shelf()
        page = page_on(shelf, BY_PRICE, EVERY, 3)
        rows = list(page[0])
        gaps_of(GOODS, BY_PRICE, page)
        page_back(shelf, BY_PRICE, EVERY, 3)
        stretch(shelf, BY_PRICE, EVERY, None, None, 4)
        self.assertEqual(page[0], rows)
        self.assertEqual(shelf.history(), SHELF.history())
        self.assertEqual([shelf.all_at(moment) for moment in range(11)], [SHELF.all_at(moment) for moment in range(11)])


if __name__ == "__main__":
    unittest.main()
