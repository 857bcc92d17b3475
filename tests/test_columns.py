import copy
import unittest

from helper import Agreeing, CheckTest, Failing, other_things, shown
from pageturns.columns import check_columns, check_row, kind_named, value_in
from pageturns.errors import BadColumns, BadRow

SIXTY = int("9" * 60)
GOODS = (("price", "number"), ("maker", "word"), ("stock", "number"))
EIGHT = tuple((name, "word") for name in "abcdefgh")
NINE = EIGHT + (("i", "word"),)


class ColumnsTest(CheckTest):
    def good(self, columns):
        self.hold_good(check_columns, columns)

    def bad(self, columns):
        self.hold_bad(BadColumns, check_columns, columns)

    def test_none_to_eight_are_columns(self):
        for count in range(9):
            self.good(EIGHT[:count])
        self.good(GOODS)
        self.good((("number", "word"), ("word", "number")))
        self.good((("abcdefgh", "number"), ("abcdefg", "number")))

    def test_nine_and_more_are_none(self):
        self.bad(NINE)
        self.bad(NINE * 1000)

    def test_a_name_twice(self):
        self.bad((("price", "number"), ("price", "number")))
        self.bad((("price", "number"), ("price", "word")))
        self.bad((("price", "number"), ("maker", "word"), ("price", "number")))
        self.bad(EIGHT[:7] + EIGHT[:1])

    def test_a_list_in_the_place_of_a_tuple(self):
        self.bad([])
        self.bad(list(GOODS))
        self.bad((["price", "number"],))
        self.bad((("maker", "word"), ["price", "number"]))
        self.bad([["price", "number"]])

    def test_a_pair_too_short_or_too_long(self):
        self.bad(((),))
        self.bad((("price",),))
        self.bad((("price", "number", "up"),))
        self.bad((("price", "number"), ("maker",)))
        self.bad(("price", "number"))
        self.bad(("ab", "cd"))

    def test_what_is_no_name(self):
        for name in ("", "abcdefghi", "Price", "price1", "1price", "a b", "a\n", None, 1, ("a",)):
            self.bad(((name, "number"),))
            self.bad((("maker", "word"), (name, "number")))

    def test_what_is_no_kind(self):
        for kind in ("", "Number", "numbers", "num", "words", "text", " word", "word\n", None, 0, ("word",)):
            self.bad((("price", kind),))
            self.bad((("maker", "word"), ("price", kind)))

    def test_things_of_any_other_sort(self):
        for thing in [None, 0, 1, "", "ab", "price number"] + other_things():
            self.bad(thing)
        for thing in [None, 0, 1, "", (), ("a",)] + other_things():
            self.bad((thing,))
            self.bad(GOODS + (thing,))
            self.bad(((thing, "number"),))
            self.bad((("price", thing),))

    def test_several_faults_at_once_are_one_refusal(self):
        self.bad([["Price", "text", 1]] * 9)
        self.bad((("price", "text"),) * 9)


class KindNamedTest(unittest.TestCase):
    def test_each_kind_by_its_name(self):
        self.assertEqual(kind_named(GOODS, "price"), "number")
        self.assertEqual(kind_named(GOODS, "maker"), "word")
        self.assertEqual(kind_named(GOODS, "stock"), "number")
        self.assertEqual([kind_named(EIGHT, name) for name in "abcdefgh"], ["word"] * 8)

    def test_no_column_is_called_so(self):
        for name in ("cost", "pric", "prices", "number", "word", "key"):
            self.assertIsNone(kind_named(GOODS, name))
        self.assertIsNone(kind_named((), "price"))

    def test_of_anything(self):
        for thing in [None, 0, 1, "", "Price", "price ", "abcdefghi", (), ("price",), GOODS[0]] + other_things():
            with self.subTest(thing=shown(thing)):
                self.assertIsNone(kind_named(GOODS, thing))
                self.assertIsNone(kind_named((), thing))


class RowTest(CheckTest):
    def good(self, columns, row):
        self.hold_good(check_row, columns, row)

    def bad(self, columns, row):
        self.hold_bad(BadRow, check_row, columns, row)

    def test_rows(self):
        self.good(GOODS, ("pen2", (5, "acme", 0)))
        self.good(GOODS, ("a", (-SIXTY, "", SIXTY)))
        self.good(GOODS, ("abcdefghijkl", (0, "~" * 40, -1)))
        self.good((), ("pen", ()))
        self.good(EIGHT, ("pen", tuple("12345678")))

    def test_none_is_a_value_of_each_column(self):
        self.good(GOODS, ("pen", (None, None, None)))
        self.good(GOODS, ("pen", (None, "acme", 1)))
        self.good(GOODS, ("pen", (1, None, 1)))

    def test_the_key_is_none(self):
        for key in ("", "2pen", "Pen", "pen ", "pen\n", "a" * 13, None, 0, 1, ("pen",)):
            self.bad(GOODS, (key, (5, "acme", 0)))
            self.bad((), (key, ()))

    def test_a_list_in_the_place_of_a_tuple(self):
        self.bad(GOODS, ["pen", (5, "acme", 0)])
        self.bad(GOODS, ("pen", [5, "acme", 0]))
        self.bad(GOODS, ["pen", [5, "acme", 0]])
        self.bad((), ("pen", []))

    def test_one_too_few_and_one_too_many(self):
        self.bad(GOODS, ("pen", (5, "acme")))
        self.bad(GOODS, ("pen", (5, "acme", 0, 0)))
        self.bad(GOODS, ("pen", (5, "acme", 0, None)))
        self.bad(GOODS, ("pen", ()))
        self.bad((), ("pen", (None,)))
        self.bad(EIGHT, ("pen", tuple("123456789")))

    def test_a_row_too_short_or_too_long(self):
        self.bad(GOODS, ())
        self.bad(GOODS, ("pen",))
        self.bad(GOODS, ("pen", (5, "acme", 0), None))
        self.bad(GOODS, ("pen", 5, "acme", 0))
        self.bad((), ("pen",))
        self.bad((), "ab")

    def test_a_value_of_the_other_kind(self):
        self.bad(GOODS, ("pen", ("5", "acme", 0)))
        self.bad(GOODS, ("pen", (5, 5, 0)))
        self.bad(GOODS, ("pen", (5, "acme", "")))

    def test_what_is_no_value(self):
        self.bad(GOODS, ("pen", (True, "acme", 0)))
        self.bad(GOODS, ("pen", (5, "acme", False)))
        self.bad(GOODS, ("pen", (5, True, 0)))
        self.bad(GOODS, ("pen", (5, "a" * 41, 0)))
        self.bad(GOODS, ("pen", (5, "a\n", 0)))
        self.bad(GOODS, ("pen", (5, "\x7f", 0)))

    def test_things_of_any_other_sort(self):
        for thing in [None, 0, 1, "", "pen", "ab"] + other_things():
            self.bad(GOODS, thing)
            self.bad((), thing)
            self.bad(GOODS, ("pen", thing))
            self.bad((), ("pen", thing))
        for thing in [(), (1,)] + other_things():
            self.bad(GOODS, (thing, (5, "acme", 0)))
            self.bad(GOODS, ("pen", (thing, "acme", 0)))
            self.bad(GOODS, ("pen", (5, thing, 0)))
            self.bad(GOODS, ("pen", (5, "acme", thing)))


class ValueInTest(unittest.TestCase):
    def test_each_value_by_its_columns_name(self):
        row = ("pen", (5, "acme", None))
        self.assertEqual(value_in(GOODS, row, "price"), 5)
        self.assertEqual(value_in(GOODS, row, "maker"), "acme")
        self.assertIsNone(value_in(GOODS, row, "stock"))

    def test_like_values_are_told_apart_by_place(self):
        row = ("pen", tuple("12345678"))
        self.assertEqual([value_in(EIGHT, row, name) for name in "hgfedcba"], list("87654321"))


class UnchangedTest(unittest.TestCase):
    def test_what_is_handed_in_stays_as_it_was(self):
        lists = [["price", "number"], ["maker", "word"]]
        row = ["pen", [5, {"a": [1]}]]
        given = copy.deepcopy((lists, row))
        for columns in (lists, tuple(lists)):
            with self.assertRaises(BadColumns):
                check_columns(columns)
        for thing in (row, tuple(row)):
            with self.assertRaises(BadRow):
                check_row(GOODS, thing)
        self.assertIsNone(kind_named(GOODS, lists))
        self.assertEqual((lists, row), given)

    def test_strange_things_are_not_asked(self):
        self.assertIsNone(kind_named(GOODS, Agreeing()))
        self.assertIsNone(kind_named(GOODS, Failing()))


if __name__ == "__main__":
    unittest.main()
