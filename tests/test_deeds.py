import unittest

from helper import GOODS, CheckTest, other_things, shown
from pageturns.deeds import check_deed, do_deed, is_done
from pageturns.errors import BadDeed, BadRow, HasKey, NoKey, PageError
from pageturns.shelves import Shelf

DEEDS = [
    ("put", "pen", (5, "acme")), ("put", "ink", (None, None)), ("change", "pen", (5, "acme")),
    ("take", "ink"), ("put", "ink", (7, "")), ("take", "pen"),
]


def done(deeds):
    shelf = Shelf(GOODS)
    for deed in deeds:
        do_deed(shelf, deed)
    return shelf


class FormTest(CheckTest):
    def test_deeds_that_a_shelf_tells(self):
        for deed in DEEDS:
            self.hold_good(check_deed, deed)
        for deed in done(DEEDS).history():
            self.hold_good(check_deed, deed)

    def test_whatever_the_key_and_the_worths_are(self):
        for thing in [None, 5, "", ()] + other_things():
            self.hold_good(check_deed, ("put", thing, thing))
            self.hold_good(check_deed, ("change", thing, thing))
            self.hold_good(check_deed, ("take", thing))

    def test_what_has_another_form(self):
        worths = (5, "acme")
        for deed in (
            (), ("put",), ("put", "pen"), ("put", "pen", worths, 1), ("change",), ("change", "pen"),
            ("change", "pen", worths, 1), ("take",), ("take", "pen", worths), ("take", "pen", worths, 1),
            ("Put", "pen", worths), ("put ", "pen", worths), ("", "pen", worths), ("asked", 1, worths), ("page", []),
            ["put", "pen", worths], ["take", "pen"], (None, "pen", worths), (0, "pen"), (("put",), "pen", worths),
            None, 0, "", "put", "ab", "put pen 5",
        ):
            self.hold_bad(BadDeed, check_deed, deed)
        for thing in other_things():
            self.hold_bad(BadDeed, check_deed, thing)
            self.hold_bad(BadDeed, check_deed, (thing,))
            self.hold_bad(BadDeed, check_deed, (thing, "pen"))
            self.hold_bad(BadDeed, check_deed, (thing, "pen", worths))


class DoneTest(unittest.TestCase):
    def test_the_history_done_to_another_shelf_makes_the_same(self):
        for count in range(len(DEEDS) + 1):
            shelf = done(DEEDS[:count])
            self.assertEqual(shelf.history(), DEEDS[:count])
            other = done(shelf.history())
            self.assertEqual(other.now(), count)
            self.assertEqual(other.history(), shelf.history())
            for moment in range(count + 1):
                self.assertEqual(other.all_at(moment), shelf.all_at(moment))
            for key in ("pen", "ink"):
                self.assertEqual(other.standings_of(key), shelf.standings_of(key))

    def test_it_is_told_whether_a_deed_was_done(self):
        shelf = Shelf(GOODS)
        for deed in DEEDS:
            self.assertIs(is_done(shelf, deed), True)
        self.assertEqual(shelf.history(), DEEDS)

    def test_the_form_goes_first_then_what_the_shelf_refuses(self):
        for deed, error in (
            (("put", "Pen"), BadDeed), (("take", "Pen", ()), BadDeed), (["take", "ink"], BadDeed),
            (("put", "Pen", (5, "acme")), BadRow), (("put", "ink", (5,)), BadRow), (("change", "pen", None), BadRow),
            (("take", "Pen"), BadRow), (("put", "ink", (5, "acme")), HasKey),
            (("change", "pen", (5, "acme")), NoKey), (("take", "pen"), NoKey),
        ):
            shelf = done(DEEDS)
            with self.subTest(deed=shown(deed)):
                try:
                    do_deed(shelf, deed)
                except PageError as raised:
                    self.assertIs(type(raised), error)
                else:
                    self.fail("not refused")
                self.assertIs(is_done(shelf, deed), False)
                self.assertEqual(shelf.history(), DEEDS)
                self.assertEqual(shelf.all_at(), [("ink", (7, ""))])


if __name__ == "__main__":
    unittest.main()
