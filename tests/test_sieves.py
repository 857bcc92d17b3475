import unittest

from helper import CheckTest, deep_list, other_things
from pageturns.errors import BadSieve
from pageturns.sieves import check_sieve, passes

SIXTY = int("9" * 60)
GOODS = (("price", "number"), ("maker", "word"), ("stock", "number"))
KEYS = ("a", "b", "c", "d", "e", "f", "g", "h")
EVERY = ("every",)
NO_TUPLES = [None, 0, 1, "", "a b", "Every"] + other_things()


def tower(word, height, top=EVERY):
    """A sieve so many higher than what stands at its top."""
    sieve = top
    for _ in range(height):
        sieve = (word, sieve) if word == "not" else (word, (sieve,))
    return sieve


def of_parts(parts):
    """A sieve of just so many parts, four deep."""
    counts = [(parts - 1) // 8 + (place < (parts - 1) % 8) for place in range(8)]
    return ("and", tuple(group_of(count) for count in counts))


def group_of(parts):
    """An or of just so many parts, three deep, of up to seventy-three."""
    inner = []
    left = parts - 1
    while left > 0:
        take = min(left, 9)
        inner.append(("and", (EVERY,) * (take - 1)))
        left -= take
    return ("or", tuple(inner))


def parts_in(sieve):
    inner = [sieve[1]] if sieve[0] == "not" else sieve[1] if sieve[0] in ("and", "or") else []
    return 1 + sum(parts_in(one) for one in inner)


class SieveTest(CheckTest):
    def good(self, sieve, columns=GOODS):
        self.hold_good(check_sieve, columns, sieve)

    def bad(self, sieve, columns=GOODS):
        """Refused alone, and wherever a sieve may stand in another one."""
        for given in (
            sieve, ("not", sieve), ("and", (sieve,)), ("or", (sieve,)), ("or", (EVERY, sieve, EVERY)),
            ("not", ("and", (("or", (EVERY, sieve)),))),
        ):
            self.hold_bad(BadSieve, check_sieve, columns, given)

    def test_each_kind(self):
        self.good(EVERY)
        self.good(EVERY, ())
        for value in (0, -5, SIXTY, -SIXTY):
            for word in ("is", "below", "above"):
                self.good((word, "price", value))
        for value in ("", "acme", "~" * 40, " "):
            for word in ("is", "below", "above", "begins"):
                self.good((word, "maker", value))
        self.good(("is", "price", None))
        self.good(("is", "maker", None))
        self.good(("key", ("pen", "pen2")))
        self.good(("not", ("is", "price", 5)))
        self.good(("and", (("above", "price", 5), ("begins", "maker", "a"))))
        self.good(("or", (("above", "price", 5), ("not", ("begins", "maker", "a")))))

    def test_a_part_more_or_fewer(self):
        self.bad(())
        self.bad(("every", ()))
        self.bad(("every", "price"))
        for word in ("is", "below", "above"):
            self.bad((word,))
            self.bad((word, "price"))
            self.bad((word, "price", 5, 5))
        self.bad(("begins",))
        self.bad(("begins", "maker"))
        self.bad(("begins", "maker", "a", "b"))
        self.bad(("key",))
        self.bad(("key", ("pen",), ("pen2",)))
        self.bad(("key", "pen"))
        self.bad(("not",))
        self.bad(("not", EVERY, EVERY))
        for word in ("and", "or"):
            self.bad((word,))
            self.bad((word, (EVERY,), (EVERY,)))
            self.bad((word, EVERY, EVERY))
            self.bad((word, EVERY))

    def test_another_word(self):
        for word in ("", "Every", "every ", "every\n", "all", "any", "xor", "keys", "none", "if", "isnot"):
            self.bad((word,))
            self.bad((word, "price", 5))
            self.bad((word, (EVERY,)))
            self.bad((word, EVERY))
        for word in (None, 0, 1, ("every",), EVERY):
            self.bad((word,))
            self.bad((word, "price", 5))

    def test_a_list_for_a_tuple(self):
        self.bad(["every"])
        self.bad(["is", "price", 5])
        self.bad(["key", ("pen",)])
        self.bad(("key", ["pen"]))
        self.bad(("key", []))
        self.bad(["not", EVERY])
        self.bad(("not", ["every"]))
        for word in ("and", "or"):
            self.bad([word, (EVERY,)])
            self.bad((word, [EVERY]))
            self.bad((word, []))
            self.bad((word, (["every"],)))

    def test_a_name_that_is_no_columns(self):
        for name in ("cost", "key", "pric", "prices", "", "Price", "price ", "abcdefghi", None, 0, ("price",)):
            for word in ("is", "below", "above"):
                self.bad((word, name, 5))
            self.bad(("begins", name, "a"))
            self.bad(("is", name, None))
        self.bad(("is", "price", 5), ())

    def test_a_value_of_the_other_kind(self):
        for word in ("is", "below", "above"):
            self.bad((word, "price", "5"))
            self.bad((word, "price", ""))
            self.bad((word, "maker", 5))
        self.bad(("begins", "maker", 5))

    def test_none_of_below_above_and_begins(self):
        for word in ("below", "above"):
            self.bad((word, "price", None))
        for word in ("below", "above", "begins"):
            self.bad((word, "maker", None))

    def test_what_is_no_value(self):
        for word in ("is", "below", "above"):
            self.bad((word, "price", True))
            self.bad((word, "price", False))
        for word in ("is", "below", "above", "begins"):
            self.bad((word, "maker", True))
            self.bad((word, "maker", "a" * 41))
            self.bad((word, "maker", "a\n"))

    def test_begins_of_a_column_of_numbers(self):
        for value in (5, "5", "", None):
            self.bad(("begins", "price", value))

    def test_none_eight_and_nine_keys(self):
        for count in range(9):
            self.good(("key", KEYS[:count]))
        self.good(("key", ("pen", "pen")))
        self.good(("key", ("pen",) * 8))
        self.bad(("key", KEYS + ("i",)))
        self.bad(("key", ("pen",) * 9))
        self.bad(("key", ("pen",) * 10000))

    def test_what_is_no_key(self):
        for key in ("", "2pen", "Pen", "pen ", "pen\n", "a" * 13, None, 0, 1, ("pen",)):
            self.bad(("key", (key,)))
            self.bad(("key", ("pen", key)))

    def test_none_eight_and_nine_sieves(self):
        for word in ("and", "or"):
            for count in range(9):
                self.good((word, (EVERY,) * count))
            self.bad((word, (EVERY,) * 9))
            self.bad((word, (EVERY,) * 9999))

    def test_things_of_any_other_sort(self):
        self.bad("every")
        for thing in NO_TUPLES:
            self.bad(thing)
            self.bad((thing,))
            self.bad(("key", thing))
            self.bad(("key", (thing,)))
            self.bad(("and", thing))
            self.bad(("or", thing))
            self.bad(("is", thing, 5))
        for thing in [(), (5,), EVERY] + other_things():
            self.bad(("is", "price", thing))
            self.bad(("is", "maker", thing))
            self.bad(("above", "price", thing))
            self.bad(("below", "maker", thing))
            self.bad(("begins", "maker", thing))


class SizeTest(CheckTest):
    def good(self, sieve):
        self.hold_good(check_sieve, GOODS, sieve)

    def bad(self, sieve):
        self.hold_bad(BadSieve, check_sieve, GOODS, sieve)

    def test_eight_and_nine_deep(self):
        for word in ("not", "and", "or"):
            for top in (EVERY, ("is", "price", 5), ("key", ()), ("and", ()), ("or", ())):
                self.good(tower(word, 7, top))
                self.bad(tower(word, 8, top))

    def test_the_deepest_counts_wherever_it_stands(self):
        for place in range(8):
            for height, hold in ((6, self.good), (7, self.bad)):
                inner = [EVERY] * 8
                inner[place] = tower("not", height)
                hold(("and", tuple(inner)))
                hold(("or", tuple(inner)))

    def test_two_hundred_and_two_hundred_and_one_parts(self):
        for count in (197, 198, 199, 200, 201, 202, 209):
            sieve = of_parts(count)
            self.assertEqual(parts_in(sieve), count)
            if count <= 200:
                self.good(sieve)
            else:
                self.bad(sieve)
        self.good(("not", of_parts(199)))
        self.bad(("not", of_parts(200)))

    def test_a_sieve_counts_as_often_as_it_stands(self):
        eight = ("and", (EVERY,) * 8)
        self.good(("and", (eight,) * 8))
        self.bad(("and", (("or", (eight,) * 8), ("or", (eight,) * 8), ("or", (eight,) * 8))))
        doubled = EVERY
        for _ in range(7):
            doubled = ("or", (doubled, doubled))
        self.bad(doubled)
        many = EVERY
        for _ in range(7):
            many = ("or", (many,) * 8)
        self.bad(many)

    def test_keys_are_no_parts(self):
        self.good(("and", (("or", (("key", KEYS),) * 8),) * 8))

    def test_towers_thousands_deep(self):
        for word in ("not", "and", "or"):
            for height in (9, 199, 200, 201, 1000, 9999):
                self.bad(tower(word, height))
                self.bad(("or", (EVERY, tower(word, height - 1))))
            self.bad(tower(word, 9999, None))
            self.bad(tower(word, 9999, deep_list(5000)))

    def test_other_tuples_thousands_deep(self):
        deep = ()
        for _ in range(9999):
            deep = (deep,)
        self.bad(deep)
        for word in ("is", "below", "above", "begins"):
            self.bad((word, "price", deep))
            self.bad((word, deep, 5))
        self.bad(("key", deep))
        self.bad(("key", (deep,)))
        self.bad(("not", deep))
        self.bad(("and", deep))
        self.bad(("and", (deep,)))


class PassTest(unittest.TestCase):
    rows = {
        "pen": (5, "acme", None), "ink": (7, "bolt", 0), "cap": (None, None, 3), "bag": (-2, "", 9),
        "box": (5, "acme co", 1),
    }

    def hold(self, sieve, keys):
        """Just these keys pass a sieve, and just the others pass its not."""
        check_sieve(GOODS, sieve)
        right = set(keys.split())
        for key, worths in self.rows.items():
            with self.subTest(sieve=sieve, key=key):
                for _ in range(2):
                    self.assertIs(passes(GOODS, sieve, (key, worths)), key in right)
                self.assertIs(passes(GOODS, ("not", sieve), (key, worths)), key not in right)

    def test_every(self):
        self.hold(EVERY, "pen ink cap bag box")

    def test_is(self):
        self.hold(("is", "price", 5), "pen box")
        self.hold(("is", "price", 6), "")
        self.hold(("is", "price", None), "cap")
        self.hold(("is", "stock", 0), "ink")
        self.hold(("is", "stock", None), "pen")
        self.hold(("is", "maker", "acme"), "pen")
        self.hold(("is", "maker", ""), "bag")
        self.hold(("is", "maker", None), "cap")
        self.hold(("is", "maker", "every"), "")

    def test_below_and_above(self):
        self.hold(("below", "price", 5), "bag")
        self.hold(("above", "price", 5), "ink")
        self.hold(("below", "price", 6), "bag pen box")
        self.hold(("above", "price", -3), "bag pen box ink")
        self.hold(("below", "price", -SIXTY), "")
        self.hold(("above", "price", -SIXTY), "bag pen box ink")
        self.hold(("below", "stock", 0), "")
        self.hold(("below", "price", 10), "bag pen box ink")

    def test_below_and_above_of_words(self):
        self.hold(("below", "maker", "acme"), "bag")
        self.hold(("above", "maker", "acme"), "box ink")
        self.hold(("below", "maker", "b"), "bag pen box")
        self.hold(("above", "maker", "Z"), "pen box ink")
        self.hold(("below", "maker", ""), "")
        self.hold(("above", "maker", ""), "pen box ink")

    def test_begins(self):
        self.hold(("begins", "maker", ""), "pen ink bag box")
        self.hold(("begins", "maker", "a"), "pen box")
        self.hold(("begins", "maker", "acme"), "pen box")
        self.hold(("begins", "maker", "acme "), "box")
        self.hold(("begins", "maker", "cme"), "")
        self.hold(("begins", "maker", "A"), "")
        self.hold(("begins", "maker", "acme corporate"), "")

    def test_key(self):
        self.hold(("key", ()), "")
        self.hold(("key", ("pen",)), "pen")
        self.hold(("key", ("pen", "cap", "pen")), "pen cap")
        self.hold(("key", ("pe", "penn", "acme")), "")

    def test_not(self):
        self.hold(("not", ("is", "price", 5)), "ink cap bag")
        self.hold(("not", ("below", "price", 6)), "ink cap")
        self.hold(("not", ("not", ("is", "price", 5))), "pen box")

    def test_and_and_or(self):
        self.hold(("and", ()), "pen ink cap bag box")
        self.hold(("or", ()), "")
        five = ("is", "price", 5)
        acme = ("is", "maker", "acme")
        ink = ("key", ("ink",))
        for sieves, both, either in (
            ((five,), "pen box", "pen box"),
            ((five, acme), "pen", "pen box"),
            ((acme, five), "pen", "pen box"),
            ((acme, ink), "", "pen ink"),
            ((ink, five, acme), "", "pen ink box"),
        ):
            self.hold(("and", sieves), both)
            self.hold(("or", sieves), either)

    def test_one_in_another(self):
        sieve = ("or", (
            ("and", (("is", "price", 5), ("not", ("begins", "maker", "acme ")))),
            ("and", (("is", "price", None), ("or", (("above", "stock", 2), ("or", ()))))),
        ))
        self.hold(sieve, "pen cap")
        self.hold(tower("not", 6, ("is", "price", 5)), "pen box")
        self.hold(tower("not", 7, ("is", "price", 5)), "ink cap bag")

    def test_without_columns(self):
        self.assertIs(passes((), EVERY, ("pen", ())), True)
        self.assertIs(passes((), ("key", ("pen",)), ("pen", ())), True)
        self.assertIs(passes((), ("key", ("pen",)), ("ink", ())), False)


if __name__ == "__main__":
    unittest.main()
