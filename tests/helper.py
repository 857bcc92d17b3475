"""What several tests share: things of any other sort, how refusals are asked for, orders, a shelf, deeds."""

import itertools
import reprlib
import unittest

from pageturns.errors import PageError
from pageturns.shelves import Shelf

SIXTY = int("9" * 60)
GOODS = (("price", "number"), ("maker", "word"))
EVERY = ("every",)
NOTHING = ("not", EVERY)
BY_KEY = ((), "up")
BY_PRICE = ((("price", "down", "last"),), "up")


class Agreeing:
    """Says that it equals whatever it is compared with."""

    def __eq__(self, other):
        return True

    def __hash__(self):
        return 0


class Failing:
    """Can't be compared, counted, walked or hashed."""

    def __eq__(self, other):
        raise RuntimeError("compared")

    def __hash__(self):
        raise RuntimeError("hashed")

    def __len__(self):
        raise RuntimeError("counted")

    def __iter__(self):
        raise RuntimeError("walked")

    def __bool__(self):
        raise RuntimeError("asked for its truth")


def shown(thing):
    """A short text of a thing, however deep it is."""
    return reprlib.repr(thing)


def deep_list(depth):
    thing = []
    for _ in range(depth):
        thing = [thing]
    return thing


def other_things():
    """Things that are no whole number, no text, no tuple and not None."""
    return [
        True, False, 0.0, 1.0, float("nan"), 1j, b"", b"a", bytearray(b"a"),
        [], ["a"], [1], [["a", "number"]], [("a", "number")], ["pen", [1]],
        {}, {"a": "number"}, {"a": 1}, set(), {"a"}, frozenset(), range(2),
        object(), int, str, len, Ellipsis, NotImplemented, iter(()), ValueError("a"),
        Agreeing(), Failing(), deep_list(5000),
    ]


def no_lists():
    return [None, 0, "", "put", (), (1,)] + [thing for thing in other_things() if not isinstance(thing, list)]


class Tripping(tuple):
    """A tuple that must not be looked into."""

    def __len__(self):
        raise RuntimeError("counted")

    def __getitem__(self, place):
        raise RuntimeError("looked into")


def all_orders(names):
    """The orders by just these columns, with every way and end."""
    choices = [[(name, way, end) for way in ("up", "down") for end in ("first", "last")] for name in names]
    return [(parts, way) for parts in itertools.product(*choices) for way in ("up", "down")]


def keys_of(rows):
    return " ".join(key for key, worths in rows)


def shelf_of_eight():
    """A shelf with ties and None in each column, at moment 8."""
    shelf = Shelf(GOODS)
    for key, worths in (
        ("pen", (5, "acme")), ("ink", (7, "acme")), ("cap", (None, "bolt")), ("bag", (5, None)),
        ("box", (5, "acme")), ("rod", (None, None)), ("a2", (7, "")), ("a10", (-7, "acme co")),
    ):
        shelf.put(key, worths)
    return shelf


def any_deed(chance, shelf, keys):
    """A deed of one of the keys that a shelf of GOODS does not refuse, with worths that make ties."""
    key = chance.choice(keys)
    worths = (chance.choice((None, -1, 0, 1, 2)), chance.choice((None, "", "a", "b")))
    if shelf.worths_at(key) is None:
        return ("put", key, worths)
    return chance.choice((("change", key, worths), ("take", key)))


class CheckTest(unittest.TestCase):
    def hold_good(self, check, *given):
        with self.subTest(given=shown(given)):
            self.assertIsNone(check(*given))
            self.assertIsNone(check(*given))

    def hold_bad(self, error, check, *given):
        with self.subTest(given=shown(given)):
            for _ in range(2):
                try:
                    check(*given)
                except PageError as raised:
                    self.assertIs(type(raised), error)
                else:
                    self.fail("not refused")

    def hold_own(self, ask):
        """What the asker does to a list that was told changes nothing of what is told next."""
        told = ask()
        right = list(told)
        told.reverse()
        told.append("more")
        self.assertEqual(ask(), right)
        told.clear()
        self.assertEqual(ask(), right)

    def hold_first(self, asks, right, wrong, errors):
        """Whichever of the things that are handed in are wrong ones: the first one's error is raised."""
        for faulty in itertools.product((False, True), repeat=len(errors)):
            if any(faulty):
                choices = [wrong[place] if fault else right[place] for place, fault in enumerate(faulty)]
                for ask, given in itertools.product(asks, itertools.product(*choices)):
                    self.hold_bad(errors[faulty.index(True)], ask, *given)
