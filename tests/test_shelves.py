import random
import unittest

from helper import CheckTest, other_things, shown
from pageturns.errors import BadColumns, BadRow, HasKey, NoKey, NoMoment, PageError
from pageturns.shelves import Shelf

SIXTY = int("9" * 60)
GOODS = (("price", "number"), ("maker", "word"))
NO_KEYS = ["", "2pen", "Pen", "pen ", "pen\n", "a" * 13, None, 0, 1, (), ("pen",)] + other_things()
NO_WORTHS = [
    None, 0, "", "ab", (), (5,), (5, "acme", 1), ("5", "acme"), (5, 5), (True, "acme"), (5, False),
    (5, "a" * 41), (5, "a\n"), [5, "acme"],
] + other_things()
NO_MOMENTS = [-1, -SIXTY, SIXTY, "", "0", "1", "now", (), (0,)] + other_things()


def told_of(shelf, keys=("pen", "ink", "cap", "never")):
    """All that is told of a shelf."""
    moments = range(shelf.now() + 1)
    return (
        shelf.has_columns(), shelf.now(), shelf.history(), shelf.all_at(),
        [shelf.all_at(moment) for moment in moments],
        [[shelf.worths_at(key, moment) for moment in moments] for key in keys],
        [shelf.worths_at(key) for key in keys],
        [shelf.standings_of(key) for key in keys],
    )


def some_shelf():
    """pen stands, ink stood and was taken; now is 4."""
    shelf = Shelf(GOODS)
    shelf.put("pen", (5, "acme"))
    shelf.put("ink", (7, None))
    shelf.change("pen", (6, "acme"))
    shelf.take("ink")
    return shelf


class MadeTest(CheckTest):
    def test_a_new_shelf_is_without_rows_at_moment_0(self):
        for columns in ((), GOODS, tuple((name, "word") for name in "abcdefgh")):
            shelf = Shelf(columns)
            self.assertEqual(shelf.has_columns(), columns)
            self.assertEqual(shelf.now(), 0)
            self.assertEqual(shelf.all_at(), [])
            self.assertEqual(shelf.all_at(0), [])
            self.assertEqual(shelf.history(), [])
            self.assertEqual(shelf.standings_of("pen"), [])
            self.assertIsNone(shelf.worths_at("pen"))

    def test_columns_that_are_none(self):
        for columns in [
            None, 0, "", "ab", list(GOODS), (["price", "number"],), (("price", "text"),), (("Price", "number"),),
            (("price", "number"), ("price", "word")), tuple((name, "word") for name in "abcdefghi"),
        ] + other_things():
            self.hold_bad(BadColumns, Shelf, columns)

    def test_two_shelves_are_two(self):
        one = Shelf(GOODS)
        other = Shelf(GOODS)
        one.put("pen", (5, "acme"))
        self.assertEqual((one.now(), other.now()), (1, 0))
        self.assertEqual(other.all_at(), [])


class DeedTest(unittest.TestCase):
    def test_each_deed_makes_the_moment_one_more_and_gives_nothing_back(self):
        shelf = Shelf(GOODS)
        for deed, right in (
            (lambda: shelf.put("pen", (5, "acme")), [("pen", (5, "acme"))]),
            (lambda: shelf.put("ink", (None, None)), [("ink", (None, None)), ("pen", (5, "acme"))]),
            (lambda: shelf.change("pen", (6, "")), [("ink", (None, None)), ("pen", (6, ""))]),
            (lambda: shelf.take("ink"), [("pen", (6, ""))]),
            (lambda: shelf.put("ink", (-SIXTY, "~" * 40)), [("ink", (-SIXTY, "~" * 40)), ("pen", (6, ""))]),
            (lambda: shelf.take("ink"), [("pen", (6, ""))]),
            (lambda: shelf.take("pen"), []),
        ):
            before = shelf.now()
            self.assertIsNone(deed())
            self.assertEqual(shelf.now(), before + 1)
            self.assertEqual(shelf.all_at(), right)

    def test_a_change_to_the_same_worths_is_a_deed_and_a_standing(self):
        shelf = Shelf(GOODS)
        shelf.put("pen", (5, "acme"))
        shelf.change("pen", (5, "acme"))
        self.assertEqual(shelf.now(), 2)
        self.assertEqual(shelf.history(), [("put", "pen", (5, "acme")), ("change", "pen", (5, "acme"))])
        self.assertEqual(shelf.standings_of("pen"), [(1, 1, (5, "acme")), (2, None, (5, "acme"))])

    def test_without_columns(self):
        shelf = Shelf(())
        shelf.put("pen", ())
        self.assertEqual(shelf.all_at(), [("pen", ())])
        self.assertEqual(shelf.worths_at("pen"), ())
        with self.assertRaises(HasKey):
            shelf.put("pen", ())
        shelf.change("pen", ())
        shelf.take("pen")
        self.assertIsNone(shelf.worths_at("pen"))
        self.assertEqual(shelf.now(), 3)


class RefusalTest(unittest.TestCase):
    def refused(self, error, name, *given):
        """Refused, the same again, and nothing is changed by it."""
        shelf = some_shelf()
        before = told_of(shelf)
        with self.subTest(name=name, given=shown(given)):
            for _ in range(2):
                try:
                    getattr(shelf, name)(*given)
                except PageError as raised:
                    self.assertIs(type(raised), error)
                else:
                    self.fail("not refused")
                self.assertEqual(told_of(shelf), before)

    def test_a_row_that_is_none(self):
        for key in NO_KEYS:
            self.refused(BadRow, "put", key, (5, "acme"))
            self.refused(BadRow, "change", key, (5, "acme"))
            self.refused(BadRow, "take", key)
        for worths in NO_WORTHS:
            self.refused(BadRow, "put", "cap", worths)
            self.refused(BadRow, "change", "pen", worths)

    def test_a_key_that_stands(self):
        self.refused(HasKey, "put", "pen", (6, "acme"))
        self.refused(HasKey, "put", "pen", (1, None))

    def test_a_key_that_does_not_stand(self):
        for key in ("ink", "cap", "never"):
            self.refused(NoKey, "change", key, (5, "acme"))
            self.refused(NoKey, "take", key)

    def test_the_row_goes_first(self):
        for worths in NO_WORTHS:
            self.refused(BadRow, "put", "pen", worths)
            self.refused(BadRow, "change", "ink", worths)
            self.refused(BadRow, "change", "never", worths)

    def test_what_was_taken_may_be_put_again(self):
        shelf = some_shelf()
        shelf.put("ink", (1, "bolt"))
        self.assertEqual(shelf.worths_at("ink"), (1, "bolt"))


class ToldTest(CheckTest):
    def test_worths_at_each_moment(self):
        shelf = some_shelf()
        self.assertEqual(
            [shelf.worths_at("pen", moment) for moment in range(5)],
            [None, (5, "acme"), (5, "acme"), (6, "acme"), (6, "acme")],
        )
        self.assertEqual(
            [shelf.worths_at("ink", moment) for moment in range(5)], [None, None, (7, None), (7, None), None]
        )
        self.assertEqual([shelf.worths_at("never", moment) for moment in range(5)], [None] * 5)

    def test_rows_at_each_moment(self):
        shelf = some_shelf()
        self.assertEqual([shelf.all_at(moment) for moment in range(5)], [
            [],
            [("pen", (5, "acme"))],
            [("ink", (7, None)), ("pen", (5, "acme"))],
            [("ink", (7, None)), ("pen", (6, "acme"))],
            [("pen", (6, "acme"))],
        ])

    def test_no_moment_is_now(self):
        shelf = some_shelf()
        for key in ("pen", "ink", "never"):
            self.assertEqual(shelf.worths_at(key), shelf.worths_at(key, 4))
            self.assertEqual(shelf.worths_at(key, None), shelf.worths_at(key, 4))
        self.assertEqual(shelf.all_at(), shelf.all_at(4))
        self.assertEqual(shelf.all_at(None), shelf.all_at(4))

    def test_what_is_no_moment(self):
        shelf = some_shelf()
        before = told_of(shelf)
        for moment in [5, 6] + NO_MOMENTS:
            self.hold_bad(NoMoment, shelf.all_at, moment)
            for key in ["pen", "ink", "never"] + NO_KEYS:
                self.hold_bad(NoMoment, shelf.worths_at, key, moment)
        self.assertEqual(told_of(shelf), before)
        self.hold_bad(NoMoment, Shelf(GOODS).all_at, 1)
        self.hold_bad(NoMoment, Shelf(GOODS).worths_at, "pen", 1)

    def test_what_is_no_key(self):
        shelf = some_shelf()
        for key in NO_KEYS:
            with self.subTest(key=shown(key)):
                for moment in (None, 0, 4):
                    self.assertIsNone(shelf.worths_at(key, moment))
                self.assertIsNone(shelf.worths_at(key))
                self.assertEqual(shelf.standings_of(key), [])

    def test_rows_go_by_keys_as_python_compares_them(self):
        keys = ["a", "a1", "a10", "a2", "aa", "ab", "b", "b0", "z", "z9"]
        shelf = Shelf(())
        for key in reversed(keys):
            shelf.put(key, ())
        self.assertEqual(shelf.all_at(), [(key, ()) for key in keys])
        shelf.take("a1")
        shelf.put("a1", ())
        self.assertEqual([key for key, worths in shelf.all_at()], keys)

    def test_standings_that_ended_and_one_that_lasts(self):
        shelf = some_shelf()
        self.assertEqual(shelf.standings_of("pen"), [(1, 2, (5, "acme")), (3, None, (6, "acme"))])
        self.assertEqual(shelf.standings_of("ink"), [(2, 3, (7, None))])
        self.assertEqual(shelf.standings_of("never"), [])
        shelf.put("ink", (8, "bolt"))
        shelf.change("ink", (8, "bolt"))
        shelf.take("pen")
        self.assertEqual(shelf.standings_of("pen"), [(1, 2, (5, "acme")), (3, 6, (6, "acme"))])
        self.assertEqual(shelf.standings_of("ink"), [(2, 3, (7, None)), (5, 5, (8, "bolt")), (6, None, (8, "bolt"))])

    def test_a_standing_of_one_moment(self):
        shelf = Shelf(())
        shelf.put("pen", ())
        shelf.take("pen")
        self.assertEqual(shelf.standings_of("pen"), [(1, 1, ())])
        self.assertEqual([shelf.worths_at("pen", moment) for moment in range(3)], [None, (), None])

    def test_all_deeds_in_order(self):
        self.assertEqual(some_shelf().history(), [
            ("put", "pen", (5, "acme")), ("put", "ink", (7, None)), ("change", "pen", (6, "acme")), ("take", "ink"),
        ])

    def test_what_is_told_is_of_the_kinds_told(self):
        shelf = some_shelf()
        for told in (shelf.all_at(), shelf.all_at(2), shelf.standings_of("pen"), shelf.history()):
            self.assertIs(type(told), list)
            for entry in told:
                self.assertIs(type(entry), tuple)
        self.assertIs(type(shelf.worths_at("pen")), tuple)
        self.assertIs(type(shelf.now()), int)


class UnchangedTest(unittest.TestCase):
    def test_lists_that_were_told_are_the_askers_own(self):
        shelf = some_shelf()
        before = told_of(shelf)
        for ask in (
            shelf.all_at, lambda: shelf.all_at(2), shelf.history,
            lambda: shelf.standings_of("pen"), lambda: shelf.standings_of("ink"),
            lambda: shelf.standings_of("never"), lambda: shelf.standings_of(5),
        ):
            told = ask()
            told.append("more")
            told[0] = "other"
            self.assertEqual(told_of(shelf), before)
            told.clear()
            self.assertEqual(told_of(shelf), before)
            self.assertIsNot(ask(), ask())

    def test_lists_that_were_told_stay_as_they_were(self):
        shelf = some_shelf()
        rows = shelf.all_at()
        standings = shelf.standings_of("pen")
        deeds = shelf.history()
        shelf.take("pen")
        self.assertEqual(rows, [("pen", (6, "acme"))])
        self.assertEqual(standings, [(1, 2, (5, "acme")), (3, None, (6, "acme"))])
        self.assertEqual(len(deeds), 4)

    def test_telling_changes_nothing(self):
        shelf = some_shelf()
        self.assertEqual(told_of(shelf), told_of(shelf))


class ManyDeedsTest(unittest.TestCase):
    """A long row of deeds, beside a picture of all rows kept for each moment."""

    def test_two_thousand_deeds(self):
        chance = random.Random(14)
        keys = ["k" + str(number) for number in range(40)]
        shelf = Shelf(GOODS)
        pictures = [{}]
        while shelf.now() < 2000:
            key = chance.choice(keys)
            worths = (chance.choice([None, -1, 0, 1]), chance.choice([None, "", "a"]))
            picture = dict(pictures[-1])
            if key not in picture:
                shelf.put(key, worths)
                picture[key] = worths
            elif chance.random() < 0.5:
                shelf.change(key, worths)
                picture[key] = worths
            else:
                shelf.take(key)
                picture.pop(key)
            pictures.append(picture)
        for moment, picture in enumerate(pictures):
            self.assertEqual(shelf.all_at(moment), sorted(picture.items()))
        for key in keys:
            self.assertEqual(
                [shelf.worths_at(key, moment) for moment in range(2001)], [picture.get(key) for picture in pictures]
            )
            self.hold_standings(shelf.standings_of(key), [picture.get(key) for picture in pictures])

    def hold_standings(self, standings, worths_by_moment):
        told = [None] * len(worths_by_moment)
        for begin, end, worths in standings:
            for moment in range(begin, len(told) if end is None else end + 1):
                self.assertIsNone(told[moment])
                told[moment] = worths
        self.assertEqual(told, worths_by_moment)
        self.assertEqual(standings, sorted(standings, key=lambda standing: standing[0]))


if __name__ == "__main__":
    unittest.main()
