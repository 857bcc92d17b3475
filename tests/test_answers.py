import functools
import unittest

from helper import BY_KEY, BY_PRICE, EVERY, GOODS, SIXTY, CheckTest, all_orders, keys_of, other_things, shelf_of_eight
from pageturns.answers import count_of, plain
from pageturns.errors import BadOrder, BadSieve, NoMoment
from pageturns.orders import place_of, places_compared
from pageturns.shelves import Shelf
from pageturns.sieves import passes

SIEVES = (
    EVERY, ("not", EVERY), ("is", "price", None), ("above", "price", 4), ("begins", "maker", "a"),
    ("key", ("cap", "pen", "never")), ("or", (("is", "maker", None), ("below", "price", 6))),
)


def some_shelf():
    """Rows with ties in each column; at moment 8 all stand, behind it one is changed and two are taken."""
    shelf = shelf_of_eight()
    shelf.change("pen", (9, "bolt"))
    shelf.take("box")
    shelf.take("rod")
    return shelf


class PlainTest(unittest.TestCase):
    def hold(self, order, keys, sieve=EVERY, moment=8):
        self.assertEqual(keys_of(plain(some_shelf(), order, sieve, moment)), keys)

    def test_by_keys_alone(self):
        self.hold(((), "up"), "a10 a2 bag box cap ink pen rod")
        self.hold(((), "down"), "rod pen ink cap box bag a2 a10")

    def test_by_one_part_both_ways_and_both_ends(self):
        self.hold(((("price", "up", "first"),), "up"), "cap rod a10 bag box pen a2 ink")
        self.hold(((("price", "up", "last"),), "up"), "a10 bag box pen a2 ink cap rod")
        self.hold(((("price", "down", "first"),), "up"), "cap rod a2 ink bag box pen a10")
        self.hold(((("price", "down", "last"),), "up"), "a2 ink bag box pen a10 cap rod")
        self.hold(((("maker", "up", "first"),), "up"), "bag rod a2 box ink pen a10 cap")
        self.hold(((("maker", "down", "last"),), "up"), "cap a10 box ink pen a2 bag rod")

    def test_ties_are_told_apart_by_keys_down(self):
        self.hold(((("price", "up", "first"),), "down"), "rod cap a10 pen box bag ink a2")
        self.hold(((("price", "down", "last"),), "down"), "ink a2 pen box bag a10 rod cap")

    def test_ties_are_told_apart_by_later_parts(self):
        both = (("price", "up", "last"), ("maker", "down", "first"))
        self.hold((both, "up"), "a10 bag box pen ink a2 rod cap")
        self.hold((both, "down"), "a10 bag pen box ink a2 rod cap")
        self.hold((both[::-1], "up"), "bag rod cap a10 box pen ink a2")

    def test_only_rows_that_pass(self):
        self.hold(BY_PRICE, "bag box pen", ("is", "price", 5))
        self.hold(BY_PRICE, "cap rod", ("is", "price", None))
        self.hold(BY_PRICE, "ink pen", ("key", ("pen", "ink", "never")))
        self.hold(BY_PRICE, "", ("not", EVERY))
        self.hold(BY_PRICE, "", ("is", "price", SIXTY))

    def test_at_earlier_moments_and_now(self):
        self.hold(BY_PRICE, "", EVERY, 0)
        self.hold(BY_PRICE, "pen", EVERY, 1)
        self.hold(BY_PRICE, "ink pen cap", EVERY, 3)
        self.hold(BY_PRICE, "pen a2 ink bag box a10 cap rod", EVERY, 9)
        self.hold(BY_PRICE, "pen a2 ink bag a10 cap rod", EVERY, 10)
        for moment in (11, None):
            self.hold(BY_PRICE, "pen a2 ink bag a10 cap", EVERY, moment)
        shelf = some_shelf()
        self.assertEqual(plain(shelf, BY_PRICE, EVERY), plain(shelf, BY_PRICE, EVERY, 11))

    def test_rows_are_told_as_they_stood(self):
        shelf = some_shelf()
        pens = ("key", ("pen",))
        self.assertEqual(plain(shelf, BY_PRICE, pens, 8), [("pen", (5, "acme"))])
        self.assertEqual(plain(shelf, BY_PRICE, pens), [("pen", (9, "bolt"))])
        self.assertEqual(plain(shelf, BY_PRICE, ("is", "price", 5), 9), [("bag", (5, None)), ("box", (5, "acme"))])

    def test_no_rows(self):
        for columns in ((), GOODS):
            self.assertEqual(plain(Shelf(columns), BY_KEY, EVERY), [])
            self.assertEqual(plain(Shelf(columns), BY_KEY, EVERY, 0), [])
            self.assertEqual(count_of(Shelf(columns), EVERY), 0)

    def test_without_columns(self):
        shelf = Shelf(())
        for key in ("b", "c", "a"):
            shelf.put(key, ())
        self.assertEqual(plain(shelf, ((), "up"), EVERY), [("a", ()), ("b", ()), ("c", ())])
        self.assertEqual(plain(shelf, ((), "down"), ("key", ("a", "c"))), [("c", ()), ("a", ())])

    def test_every_order_beside_the_places_compared(self):
        shelf = some_shelf()
        orders = all_orders(("price", "maker")) + all_orders(("maker", "price")) + all_orders(("maker",))
        for order in orders:
            def rows_compared(one, other):
                return places_compared(order, place_of(GOODS, order, one), place_of(GOODS, order, other))
            for sieve in SIEVES:
                for moment in (0, 4, 8, 11):
                    rows = [row for row in shelf.all_at(moment) if passes(GOODS, sieve, row)]
                    right = sorted(rows, key=functools.cmp_to_key(rows_compared))
                    with self.subTest(order=order, sieve=sieve, moment=moment):
                        self.assertEqual(plain(shelf, order, sieve, moment), right)
                        self.assertEqual(count_of(shelf, sieve, moment), len(right))

    def test_eight_parts(self):
        columns = tuple((name, "number") for name in "abcdefgh")
        shelf = Shelf(columns)
        for place in range(8):
            shelf.put("k" + str(place), tuple(int(place == column) for column in range(8)))
        parts = tuple((name, "up", "first") for name in "abcdefgh")
        self.assertEqual(keys_of(plain(shelf, (parts, "up"), EVERY)), "k7 k6 k5 k4 k3 k2 k1 k0")
        self.assertEqual(keys_of(plain(shelf, (parts[::-1], "up"), EVERY)), "k0 k1 k2 k3 k4 k5 k6 k7")


class CountTest(unittest.TestCase):
    def test_counts(self):
        shelf = some_shelf()
        self.assertEqual([count_of(shelf, EVERY, moment) for moment in (0, 1, 8, 9, 10, 11)], [0, 1, 8, 8, 7, 6])
        self.assertEqual(count_of(shelf, EVERY), 6)
        self.assertEqual(count_of(shelf, EVERY, None), 6)
        self.assertEqual(count_of(shelf, ("is", "price", 5), 8), 3)
        self.assertEqual(count_of(shelf, ("is", "price", 5)), 1)
        self.assertEqual(count_of(shelf, ("not", EVERY)), 0)
        self.assertIs(type(count_of(shelf, EVERY)), int)


class RefusalTest(CheckTest):
    no_orders = [None, (), ((), "Up"), ([], "up"), ((("cost", "up", "first"),), "up"), "up"] + other_things()
    no_sieves = [None, (), ("all",), ["every"], ("is", "cost", 5), ("below", "price", None), "every"] + other_things()
    no_moments = [-1, 12, "", "0", (), SIXTY] + other_things()

    def test_each_refusal(self):
        shelf = some_shelf()
        for order in self.no_orders:
            self.hold_bad(BadOrder, plain, shelf, order, EVERY)
        for sieve in self.no_sieves:
            self.hold_bad(BadSieve, plain, shelf, BY_PRICE, sieve)
            self.hold_bad(BadSieve, count_of, shelf, sieve)
        for moment in self.no_moments:
            self.hold_bad(NoMoment, plain, shelf, BY_PRICE, EVERY, moment)
            self.hold_bad(NoMoment, plain, shelf, BY_PRICE, ("not", EVERY), moment)
            self.hold_bad(NoMoment, count_of, shelf, EVERY, moment)

    def test_the_one_told_first_is_raised(self):
        shelf = some_shelf()
        for order in self.no_orders:
            self.hold_bad(BadOrder, plain, shelf, order, ("all",))
            self.hold_bad(BadOrder, plain, shelf, order, EVERY, -1)
            self.hold_bad(BadOrder, plain, shelf, order, ("all",), -1)
        for sieve in self.no_sieves:
            self.hold_bad(BadSieve, plain, shelf, BY_PRICE, sieve, -1)
            self.hold_bad(BadSieve, count_of, shelf, sieve, -1)
        for moment in self.no_moments:
            self.hold_bad(BadSieve, plain, shelf, BY_PRICE, ("all",), moment)
            self.hold_bad(BadOrder, plain, shelf, ((), "Up"), EVERY, moment)
            self.hold_bad(BadSieve, count_of, shelf, ("all",), moment)

    def test_an_empty_shelf_refuses_likewise(self):
        shelf = Shelf(GOODS)
        self.hold_bad(BadOrder, plain, shelf, ((), "Up"), ("all",), 1)
        self.hold_bad(BadSieve, plain, shelf, BY_PRICE, ("all",), 1)
        self.hold_bad(NoMoment, plain, shelf, BY_PRICE, EVERY, 1)
        self.hold_bad(NoMoment, count_of, shelf, EVERY, 1)


class UnchangedTest(unittest.TestCase):
    def test_the_list_that_was_told_is_the_askers_own(self):
        shelf = some_shelf()
        for moment in (None, 8):
            told = plain(shelf, BY_PRICE, EVERY, moment)
            right = list(told)
            told.reverse()
            told.append("more")
            self.assertEqual(plain(shelf, BY_PRICE, EVERY, moment), right)
            told.clear()
            self.assertEqual(plain(shelf, BY_PRICE, EVERY, moment), right)
            self.assertEqual(count_of(shelf, EVERY, moment), len(right))

    def test_telling_changes_nothing_of_the_shelf(self):
        shelf = some_shelf()
        other = some_shelf()
        plain(shelf, BY_PRICE, EVERY)
        count_of(shelf, EVERY, 3)
        self.assertEqual(shelf.history(), other.history())
        self.assertEqual([shelf.all_at(moment) for moment in range(12)], [other.all_at(moment) for moment in range(12)])

    def test_an_answer_of_an_earlier_moment_stays_whatever_is_done_later(self):
        shelf = some_shelf()
        right = plain(shelf, BY_PRICE, EVERY)
        shelf.change("pen", (1, None))
        shelf.take("ink")
        self.assertEqual(plain(shelf, BY_PRICE, EVERY, 11), right)

    def test_it_is_a_list_of_tuples(self):
        told = plain(some_shelf(), BY_PRICE, EVERY)
        self.assertIs(type(told), list)
        for row in told:
            self.assertIs(type(row), tuple)
            self.assertIs(type(row[1]), tuple)


if __name__ == "__main__":
    unittest.main()
