import itertools
import unittest

from helper import CheckTest, all_orders, other_things
from pageturns.errors import BadOrder, BadPlace
from pageturns.orders import (
    check_gap, check_order, check_place, is_ahead, place_of, places_compared, turned, turned_gap,
)

SIXTY = int("9" * 60)
GOODS = (("price", "number"), ("maker", "word"), ("stock", "number"))
EIGHT = tuple((name, "word") for name in "abcdefgh")
NINE = EIGHT + (("i", "word"),)
BY_PRICE = ((("price", "down", "last"),), "up")
BY_BOTH = ((("maker", "up", "first"), ("price", "down", "last")), "up")
BY_KEY = ((), "up")
NO_TUPLES = [None, 0, 1, "", "ab", "abc"] + other_things()


def parts_of(names):
    return tuple((name, "up", "first") for name in names)


class OrderTest(CheckTest):
    def good(self, columns, order):
        self.hold_good(check_order, columns, order)

    def bad(self, columns, order):
        self.hold_bad(BadOrder, check_order, columns, order)

    def test_none_to_eight_parts(self):
        for count in range(9):
            self.good(EIGHT, (parts_of("abcdefgh"[:count]), "up"))
        self.good(EIGHT, (parts_of("hgfedcba"), "down"))
        self.good((), ((), "up"))
        self.good((), ((), "down"))

    def test_every_way_and_end(self):
        for order in all_orders(("price", "maker")):
            self.good(GOODS, order)

    def test_nine_parts(self):
        self.bad(EIGHT, (parts_of("abcdefgha"), "up"))
        self.bad(NINE, (parts_of("abcdefghi"), "up"))
        self.bad(EIGHT, (parts_of("abcdefgh") * 1000, "up"))

    def test_a_column_twice(self):
        self.bad(GOODS, ((("price", "up", "first"), ("price", "up", "first")), "up"))
        self.bad(GOODS, ((("price", "up", "first"), ("price", "down", "last")), "up"))
        self.bad(GOODS, ((("price", "up", "first"), ("maker", "up", "first"), ("price", "up", "last")), "up"))

    def test_a_column_that_there_is_none(self):
        for name in ("cost", "key", "pric", "prices", "", "Price", "price ", "abcdefghi", None, 0, ("price",)):
            self.bad(GOODS, (((name, "up", "first"),), "up"))
            self.bad(GOODS, ((("maker", "up", "first"), (name, "up", "first")), "up"))
        self.bad((), ((("price", "up", "first"),), "up"))

    def test_another_way(self):
        for way in ("", "Up", "upp", "u", "up ", "down\n", "first", "last", "ahead", None, 0, 1, ("up",)):
            self.bad(GOODS, ((("price", way, "first"),), "up"))
            self.bad(GOODS, ((("price", "up", "first"),), way))
            self.bad(GOODS, ((), way))
            self.bad((), ((), way))

    def test_another_end(self):
        for end in ("", "First", "firs", "last ", "last\n", "up", "down", "behind", None, 0, 1, ("last",)):
            self.bad(GOODS, ((("price", "up", end),), "up"))
            self.bad(GOODS, ((("maker", "up", "last"), ("price", "up", end)), "up"))

    def test_a_part_too_short_or_too_long(self):
        for part in ((), ("price",), ("price", "up"), ("price", "up", "first", "up"), ("price", "number")):
            self.bad(GOODS, ((part,), "up"))
            self.bad(GOODS, ((("maker", "up", "first"), part), "up"))
        self.bad(GOODS, (("price", "up", "first"), "up"))

    def test_an_order_too_short_or_too_long(self):
        self.bad(GOODS, ())
        self.bad(GOODS, ((),))
        self.bad(GOODS, ("up",))
        self.bad(GOODS, ((), "up", "first"))
        self.bad(GOODS, ("up", ()))
        self.bad(GOODS, (("price", "up", "first"), ("maker", "up", "first")))

    def test_a_list_in_the_place_of_a_tuple_at_each_depth(self):
        self.bad(GOODS, [(("price", "up", "first"),), "up"])
        self.bad(GOODS, ([("price", "up", "first")], "up"))
        self.bad(GOODS, ((["price", "up", "first"],), "up"))
        self.bad(GOODS, ((("maker", "up", "first"), ["price", "up", "first"]), "up"))
        self.bad(GOODS, ([], "up"))
        self.bad(GOODS, [[["price", "up", "first"]], "up"])

    def test_things_of_any_other_sort(self):
        for thing in NO_TUPLES:
            self.bad(GOODS, thing)
            self.bad(GOODS, (thing, "up"))
            self.bad(GOODS, ((thing,), "up"))
            self.bad(GOODS, (((thing, "up", "first"),), "up"))
            self.bad(GOODS, ((("price", thing, "first"),), "up"))
            self.bad(GOODS, ((("price", "up", thing),), "up"))
            self.bad(GOODS, ((), thing))


class PlaceTest(CheckTest):
    def good(self, order, place):
        self.hold_good(check_place, GOODS, order, place)
        for side in ("ahead", "behind"):
            self.hold_good(check_gap, GOODS, order, (place, side))

    def bad(self, order, place):
        self.hold_bad(BadPlace, check_place, GOODS, order, place)
        for side in ("ahead", "behind"):
            self.hold_bad(BadPlace, check_gap, GOODS, order, (place, side))

    def test_places(self):
        self.good(BY_PRICE, ((5,), "pen2"))
        self.good(BY_PRICE, ((-SIXTY,), "a"))
        self.good(BY_BOTH, (("acme", 5), "pen2"))
        self.good(BY_BOTH, (("~" * 40, SIXTY), "abcdefghijkl"))
        self.good(BY_KEY, ((), "pen2"))
        for order in all_orders(("maker", "price")):
            self.good(order, (("", 0), "pen2"))

    def test_none_is_a_value(self):
        self.good(BY_PRICE, ((None,), "pen2"))
        self.good(BY_BOTH, ((None, 5), "pen2"))
        self.good(BY_BOTH, (("acme", None), "pen2"))

    def test_a_value_too_many_or_too_few(self):
        self.bad(BY_PRICE, ((), "pen2"))
        self.bad(BY_PRICE, ((5, 5), "pen2"))
        self.bad(BY_PRICE, ((5, None), "pen2"))
        self.bad(BY_BOTH, (("acme",), "pen2"))
        self.bad(BY_BOTH, (("acme", 5, 1), "pen2"))
        self.bad(BY_KEY, ((None,), "pen2"))
        self.bad(BY_KEY, ((5,), "pen2"))

    def test_a_value_of_the_other_kind(self):
        self.bad(BY_PRICE, (("5",), "pen2"))
        self.bad(BY_PRICE, (("",), "pen2"))
        self.bad(BY_BOTH, ((5, "acme"), "pen2"))
        self.bad(BY_BOTH, (("acme", "acme"), "pen2"))
        self.bad(BY_BOTH, ((5, 5), "pen2"))

    def test_what_is_no_value(self):
        for truth in (True, False):
            self.bad(BY_PRICE, ((truth,), "pen2"))
            self.bad(BY_BOTH, ((truth, 5), "pen2"))
        self.bad(BY_BOTH, (("a" * 41, 5), "pen2"))
        self.bad(BY_BOTH, (("a\n", 5), "pen2"))

    def test_a_key_that_is_none(self):
        for key in ("", "2pen", "Pen", "pen ", "pen\n", "a" * 13, None, 0, 1, ("pen",)):
            self.bad(BY_PRICE, ((5,), key))
            self.bad(BY_KEY, ((), key))

    def test_a_place_too_short_or_too_long(self):
        self.bad(BY_PRICE, ())
        self.bad(BY_PRICE, ((5,),))
        self.bad(BY_PRICE, ((5,), "pen2", "ahead"))
        self.bad(BY_PRICE, (5, "pen2"))
        self.bad(BY_PRICE, ("pen2", (5,)))
        self.bad(BY_KEY, ("pen2",))

    def test_a_list_in_the_place_of_a_tuple(self):
        self.bad(BY_PRICE, [(5,), "pen2"])
        self.bad(BY_PRICE, ([5], "pen2"))
        self.bad(BY_KEY, ([], "pen2"))

    def test_things_of_any_other_sort(self):
        for thing in NO_TUPLES:
            self.bad(BY_PRICE, thing)
            self.bad(BY_PRICE, (thing, "pen2"))
            self.bad(BY_KEY, (thing, "pen2"))
        for thing in [(), (5,)] + other_things():
            self.bad(BY_PRICE, ((thing,), "pen2"))
            self.bad(BY_BOTH, ((thing, 5), "pen2"))
            self.bad(BY_PRICE, ((5,), thing))


class GapTest(CheckTest):
    def bad(self, order, gap):
        self.hold_bad(BadPlace, check_gap, GOODS, order, gap)

    def test_a_place_in_the_stead_of_a_gap(self):
        self.bad(BY_PRICE, ((5,), "pen2"))
        self.bad(BY_KEY, ((), "pen2"))
        self.bad(BY_KEY, ((), "ahead"))
        self.bad(BY_PRICE, ((5,), "behind"))

    def test_a_gap_in_the_stead_of_a_place(self):
        self.hold_bad(BadPlace, check_place, GOODS, BY_PRICE, (((5,), "pen2"), "ahead"))

    def test_another_side(self):
        for side in ("", "Ahead", "ahea", "behind ", "behind\n", "up", "first", None, 0, 1, ("ahead",)):
            self.bad(BY_PRICE, (((5,), "pen2"), side))

    def test_a_gap_too_short_or_too_long(self):
        self.bad(BY_PRICE, ())
        self.bad(BY_PRICE, (((5,), "pen2"),))
        self.bad(BY_PRICE, (((5,), "pen2"), "ahead", "ahead"))
        self.bad(BY_PRICE, ("ahead", ((5,), "pen2")))

    def test_a_gap_of_another_order(self):
        self.bad(BY_PRICE, ((("acme", 5), "pen2"), "ahead"))
        self.bad(BY_BOTH, (((5,), "pen2"), "behind"))
        self.bad(BY_KEY, (((5,), "pen2"), "ahead"))
        self.bad(((("maker", "up", "last"),), "up"), (((5,), "pen2"), "ahead"))

    def test_a_list_in_the_place_of_a_tuple(self):
        self.bad(BY_PRICE, [((5,), "pen2"), "ahead"])
        self.bad(BY_PRICE, ([(5,), "pen2"], "ahead"))
        self.bad(BY_PRICE, (([5], "pen2"), "ahead"))

    def test_things_of_any_other_sort(self):
        for thing in NO_TUPLES:
            self.bad(BY_PRICE, thing)
            self.bad(BY_PRICE, (thing, "ahead"))
            self.bad(BY_PRICE, (((5,), "pen2"), thing))


class PlaceOfTest(CheckTest):
    def test_the_worths_in_the_parts_columns_and_the_key(self):
        row = ("pen2", (5, "acme", None))
        self.assertEqual(place_of(GOODS, BY_PRICE, row), ((5,), "pen2"))
        self.assertEqual(place_of(GOODS, BY_BOTH, row), (("acme", 5), "pen2"))
        self.assertEqual(place_of(GOODS, BY_KEY, row), ((), "pen2"))
        stock = ((("stock", "up", "last"), ("price", "up", "last")), "down")
        self.assertEqual(place_of(GOODS, stock, row), ((None, 5), "pen2"))
        self.assertEqual(place_of((), BY_KEY, ("pen2", ())), ((), "pen2"))

    def test_it_is_a_place_of_the_order(self):
        for order in all_orders(("price", "maker", "stock")):
            for worths in ((5, "acme", None), (None, None, 0), (0, "", -SIXTY)):
                self.hold_good(check_place, GOODS, order, place_of(GOODS, order, ("pen2", worths)))

    def test_it_is_tuples_through_and_through(self):
        place = place_of(GOODS, BY_BOTH, ("pen2", (5, "acme", None)))
        self.assertIsInstance(place, tuple)
        self.assertIsInstance(place[0], tuple)


class ComparedTest(unittest.TestCase):
    def hold_row(self, order, places):
        """Places as they stand in the order: compared each with each, and with gaps at each."""
        for place, one in enumerate(places):
            for other_place, other in enumerate(places):
                right = (place > other_place) - (place < other_place)
                with self.subTest(order=order, one=one, other=other):
                    answer = places_compared(order, one, other)
                    self.assertEqual(answer, right)
                    self.assertNotIsInstance(answer, bool)
                    self.assertIs(is_ahead(order, one, (other, "ahead")), right < 0)
                    self.assertIs(is_ahead(order, one, (other, "behind")), right <= 0)

    def test_the_first_part_that_tells_them_apart(self):
        self.hold_row(BY_BOTH, [
            ((None, 9), "a"), (("", 0), "z"), (("acme", 7), "b"), (("acme", 5), "a"),
            (("acme", None), "a"), (("bolt", 9), "a"),
        ])

    def test_numbers_and_words_both_ways(self):
        up = [-SIXTY, -10, -9, 0, 9, 10, SIXTY]
        for end in ("first", "last"):
            self.hold_row(((("price", "up", end),), "up"), [((value,), "a") for value in up])
            self.hold_row(((("price", "down", end),), "up"), [((value,), "a") for value in up[::-1]])
        up = ["", " ", "10", "9", "Z", "a", "aa", "b", "~"]
        for end in ("first", "last"):
            self.hold_row(((("maker", "up", end),), "up"), [((value,), "a") for value in up])
            self.hold_row(((("maker", "down", end),), "up"), [((value,), "a") for value in up[::-1]])

    def test_none_at_both_ends_by_both_ways(self):
        for way, values in (("up", [1, 2]), ("down", [2, 1])):
            first = [((value,), "a") for value in [None] + values]
            last = [((value,), "a") for value in values + [None]]
            self.hold_row(((("price", way, "first"),), "up"), first)
            self.hold_row(((("price", way, "last"),), "up"), last)

    def test_ties_in_all_parts_are_told_apart_by_the_keys(self):
        keys = ["a", "a1", "aa", "b", "b10", "b9", "ba"]
        for values in ((5,), (None,)):
            for way in ("up", "down"):
                for end in ("first", "last"):
                    parts = (("price", way, end),)
                    self.hold_row((parts, "up"), [(values, key) for key in keys])
                    self.hold_row((parts, "down"), [(values, key) for key in keys[::-1]])

    def test_keys_alone(self):
        self.hold_row(((), "up"), [((), key) for key in ("a", "b", "b1", "c")])
        self.hold_row(((), "down"), [((), key) for key in ("c", "b1", "b", "a")])

    def test_like_keys_are_told_apart_by_their_values(self):
        self.hold_row(BY_PRICE, [((7,), "a"), ((5,), "a"), ((None,), "a")])

    def test_like_values_and_keys_are_the_same_place(self):
        for order in all_orders(("maker", "price")):
            for values in (("acme", 5), (None, None), ("", 0)):
                self.assertEqual(places_compared(order, (values, "a"), (tuple(list(values)), "a")), 0)

    def test_eight_parts(self):
        order = (parts_of("abcdefgh"), "up")
        same = ("x",) * 7
        self.hold_row(order, [(same + ("a",), "z"), (same + ("b",), "a"), (same + ("b",), "b")])


class SideTest(unittest.TestCase):
    def test_the_place_itself_and_those_ahead_and_behind(self):
        gap_place = ((5,), "pen")
        ahead = [((7,), "pen"), ((5,), "a"), ((6,), "z")]
        behind = [((5,), "z"), ((4,), "a"), ((None,), "a")]
        for side in ("ahead", "behind"):
            for place in ahead:
                self.assertIs(is_ahead(BY_PRICE, place, (gap_place, side)), True)
            for place in behind:
                self.assertIs(is_ahead(BY_PRICE, place, (gap_place, side)), False)
        self.assertIs(is_ahead(BY_PRICE, gap_place, (gap_place, "ahead")), False)
        self.assertIs(is_ahead(BY_PRICE, gap_place, (gap_place, "behind")), True)


class TurnedTest(unittest.TestCase):
    places = [(values, key) for values in itertools.product(("", "a", None), (1, 2, None)) for key in ("a", "b")]

    def test_each_word_is_exchanged(self):
        self.assertEqual(turned(((), "up")), ((), "down"))
        self.assertEqual(turned(((), "down")), ((), "up"))
        for way, other_way in (("up", "down"), ("down", "up")):
            for end, other_end in (("first", "last"), ("last", "first")):
                order = ((("price", way, end), ("maker", "up", "last")), "up")
                right = ((("price", other_way, other_end), ("maker", "down", "first")), "down")
                self.assertEqual(turned(order), right)
        self.assertEqual(turned_gap((((5,), "pen"), "ahead")), (((5,), "pen"), "behind"))
        self.assertEqual(turned_gap((((5,), "pen"), "behind")), (((5,), "pen"), "ahead"))

    def test_turned_over_twice_all_is_as_it_was(self):
        for order in all_orders(("price", "maker")) + all_orders(()):
            self.assertEqual(turned(turned(order)), order)
            check_order(GOODS, turned(order))
        for side in ("ahead", "behind"):
            gap = ((("", None), "a"), side)
            self.assertEqual(turned_gap(turned_gap(gap)), gap)

    def test_they_are_tuples_through_and_through(self):
        order = turned(BY_BOTH)
        self.assertIsInstance(order, tuple)
        self.assertIsInstance(order[0], tuple)
        self.assertIsInstance(order[0][0], tuple)
        self.assertIsInstance(turned_gap((((5,), "pen"), "ahead")), tuple)

    def test_comparisons_and_sides_are_the_other_way_round(self):
        for order in all_orders(("maker", "price")):
            other = turned(order)
            for one, two in itertools.product(self.places, self.places):
                self.assertEqual(places_compared(other, one, two), -places_compared(order, one, two))
                for side in ("ahead", "behind"):
                    gap = (two, side)
                    self.assertIs(is_ahead(other, one, turned_gap(gap)), not is_ahead(order, one, gap))

    def test_what_is_handed_in_stays_as_it_was(self):
        order = ((("maker", "up", "first"), ("price", "down", "last")), "up")
        turned(order)
        self.assertEqual(order, BY_BOTH)


if __name__ == "__main__":
    unittest.main()
