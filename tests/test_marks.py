import itertools
import random
import unittest

from helper import CheckTest, all_orders, other_things, shown
from pageturns.errors import NoMark
from pageturns.marks import mark_text, read_mark, value_text

SIXTY = int("9" * 60)
EIGHTEEN = int("9" * 18)
GOODS = (("price", "number"), ("maker", "word"), ("key", "word"), ("at", "number"), ("up", "word"))
EIGHT = tuple((name, "word") for name in "abcdefgh")
NINE = EIGHT + (("i", "word"),)
SIGNS = "".join(chr(code) for code in range(32, 127))
BY_PRICE = ((("price", "down", "last"),), "up")
BY_MAKER = ((("maker", "up", "first"),), "up")
PEN = (7, BY_PRICE, (((-5,), "pen2"), "behind"))
PEN_TEXT = "mark 7 price down last key up at #-5 pen2 behind"


class ValueTextTest(unittest.TestCase):
    def test_none(self):
        self.assertEqual(value_text(None), "-")

    def test_numbers(self):
        for number, text in ((0, "#0"), (7, "#7"), (-5, "#-5"), (10, "#10"), (-100, "#-100")):
            self.assertEqual(value_text(number), text)
        self.assertEqual(value_text(SIXTY), "#" + "9" * 60)
        self.assertEqual(value_text(-SIXTY), "#-" + "9" * 60)

    def test_words(self):
        for word, text in (
            ("", '"'), ("a", '"a'), (" ", '"=b'), ("  ", '"=b=b'), ("=", '"=e'), ("a =b", '"a=b=eb'),
            ("=b", '"=eb'), ("=e", '"=ee'), ("==", '"=e=e'), (" = ", '"=b=e=b'), ('"', '""'), ("( )", '"(=b)'),
            ("-", '"-'), ("#5", '"#5'), ("5", '"5'), ("~" * 40, '"' + "~" * 40), (" " * 40, '"' + "=b" * 40),
        ):
            with self.subTest(word):
                self.assertEqual(value_text(word), text)

    def test_unlike_values_have_unlike_texts(self):
        words = ["".join(signs) for count in range(5) for signs in itertools.product(' =be"', repeat=count)]
        values = [None] + list(range(-12, 13)) + words
        self.assertEqual(len({value_text(value) for value in values}), len(values))


class MarkTextTest(unittest.TestCase):
    def test_the_documents_own_examples(self):
        self.assertEqual(mark_text(PEN), PEN_TEXT)
        self.assertEqual(value_text("a =b"), '"a=b=eb')

    def test_without_parts(self):
        self.assertEqual(mark_text((0, ((), "down"), (((), "a"), "ahead"))), "mark 0 key down at a ahead")

    def test_several_parts(self):
        order = ((("maker", "up", "first"), ("price", "down", "last")), "down")
        self.assertEqual(
            mark_text((EIGHTEEN, order, ((("a b", None), "pen"), "ahead"))),
            "mark " + "9" * 18 + ' maker up first price down last key down at "a=bb - pen ahead',
        )


class BothWaysTest(unittest.TestCase):
    def hold(self, columns, mark):
        """What is written is read as the same mark, of the same kinds."""
        text = mark_text(mark)
        with self.subTest(text):
            for _ in range(2):
                told = read_mark(columns, text)
                self.assertEqual(told, mark)
                self.assertEqual(repr(told), repr(mark))
                self.assertEqual(mark_text(told), text)

    def test_the_documents_own_example(self):
        self.assertEqual(read_mark(GOODS, PEN_TEXT), PEN)

    def test_moments(self):
        for moment in (0, 1, 9, 10, 2000, EIGHTEEN - 1, EIGHTEEN, int("1" + "0" * 17)):
            self.hold(GOODS, (moment,) + PEN[1:])

    def test_each_way_end_and_side(self):
        for order in all_orders(("maker", "price")) + all_orders(()):
            values = ("acme", 5)[:len(order[0])]
            for side in ("ahead", "behind"):
                self.hold(GOODS, (7, order, ((values, "pen2"), side)))

    def test_numbers(self):
        for number in (None, 0, 1, -1, 10, -10, SIXTY, -SIXTY, int("1" + "0" * 59)):
            self.hold(GOODS, (7, BY_PRICE, (((number,), "pen2"), "ahead")))

    def test_words(self):
        words = ["".join(signs) for count in range(4) for signs in itertools.product(' =be"', repeat=count)]
        words += ["( every )", "-", "#5", "at", "mark", "=" * 40, " " * 40, '"' * 40, "~" * 40]
        words += [SIGNS[start:start + 40] for start in range(0, len(SIGNS), 40)] + list(SIGNS)
        for word in words:
            self.hold(GOODS, (7, BY_MAKER, (((word,), "pen2"), "ahead")))

    def test_keys(self):
        for key in ("a", "pen2", "key", "at", "mark", "ahead", "abcdefghijkl", "a12345678901"):
            self.hold(GOODS, (7, ((), "up"), (((), key), "ahead")))

    def test_columns_that_are_called_like_a_word_of_a_mark(self):
        for names in itertools.permutations(("key", "at", "up")):
            values = {"key": "key", "at": 5, "up": "at"}
            order = (tuple((name, "up", "last") for name in names), "down")
            self.hold(GOODS, (7, order, ((tuple(values[name] for name in names), "at"), "ahead")))
        self.hold(GOODS, (7, ((("key", "down", "first"),), "up"), (((None,), "key"), "behind")))

    def test_eight_parts(self):
        order = (tuple((name, "up", "first") for name in "hgfedcba"), "up")
        self.hold(EIGHT, (7, order, ((tuple("12345678"), "pen2"), "behind")))

    def test_any_marks(self):
        chance = random.Random(19)
        for _ in range(300):
            names = chance.sample([name for name, kind in GOODS], chance.randrange(6))
            parts = tuple((name, chance.choice(("up", "down")), chance.choice(("first", "last"))) for name in names)
            values = tuple(self.any_value(chance, dict(GOODS)[name]) for name in names)
            order = (parts, chance.choice(("up", "down")))
            gap = ((values, "pen2"), chance.choice(("ahead", "behind")))
            self.hold(GOODS, (chance.randrange(10 ** 18), order, gap))

    def any_value(self, chance, kind):
        if chance.random() < 0.2:
            return None
        if kind == "number":
            return chance.randrange(-SIXTY, SIXTY + 1)
        return "".join(chance.choice(SIGNS + "= " * 20) for _ in range(chance.randrange(41)))


class OtherColumnsTest(CheckTest):
    def test_a_mark_is_as_good_for_columns_in_another_order_and_for_more_of_them(self):
        for columns in (
            (("price", "number"),), GOODS, GOODS[::-1], (("stock", "number"),) + GOODS,
            (("maker", "number"), ("price", "number")),
        ):
            self.assertEqual(read_mark(columns, PEN_TEXT), PEN)
        self.assertEqual(read_mark((), "mark 7 key up at pen2 ahead"), (7, ((), "up"), (((), "pen2"), "ahead")))

    def test_columns_without_its_names_or_of_other_kinds(self):
        for columns in ((), (("maker", "word"),), (("cost", "number"),), (("price", "word"),)):
            self.hold_bad(NoMark, read_mark, columns, PEN_TEXT)
        text = 'mark 7 maker up last key up at "acme pen2 ahead'
        self.hold_bad(NoMark, read_mark, (("maker", "number"),), text)

    def test_none_fits_columns_of_each_kind(self):
        text = "mark 7 price down last key up at - pen2 behind"
        for kind in ("number", "word"):
            mark = (7, BY_PRICE, (((None,), "pen2"), "behind"))
            self.assertEqual(read_mark((("price", kind),), text), mark)


class NoMarkTest(CheckTest):
    def bad(self, text, columns=GOODS):
        self.hold_bad(NoMark, read_mark, columns, text)

    def with_value(self, word, name="price"):
        return f"mark 7 {name} down last key up at {word} pen2 behind"

    def test_what_is_no_text(self):
        for thing in [None, 0, 7, (), (PEN_TEXT,), PEN, tuple(PEN_TEXT.split())] + other_things():
            self.bad(thing)

    def test_other_texts(self):
        for text in ("", " ", "\n", "mark", "mark 7", "none", "-", "mark 7 key up at", "mark 7 key up at pen2"):
            self.bad(text)
        for words in (PEN_TEXT.split(), "mark 7 key up at pen2 ahead".split()):
            for count in range(len(words)):
                self.bad(" ".join(words[:count]))
                if count > 0:
                    self.bad(" ".join(words[count:]))
        self.bad(" " * 6)
        self.bad(" " * 1000)
        self.bad("mark 7 " + "a up first " * 3000 + "key up at " + '"a ' * 3000 + "pen2 ahead", EIGHT)

    def test_each_word_left_out_told_twice_and_put_otherwise(self):
        texts = (
            PEN_TEXT, "mark 0 key down at a ahead",
            'mark 12 maker up first price down last key down at "a=bb - pen ahead',
        )
        for text in texts:
            words = text.split(" ")
            for place, word in enumerate(words):
                ahead, behind = words[:place], words[place + 1:]
                self.bad(" ".join(ahead + behind))
                self.bad(" ".join(ahead + [word, word] + behind))
                for other in ("", "X", word + "\n", "\n" + word, word.upper() + "A", word + "=", "(", "a 2", "+1"):
                    self.bad(" ".join(ahead + [other] + behind))
                for second in range(place + 1, len(words)):
                    # Two ways, or two ends, may stand in one another's places.
                    if {word, words[second]} not in ({word}, {"up", "down"}, {"first", "last"}):
                        swapped = list(words)
                        swapped[place], swapped[second] = words[second], word
                        self.bad(" ".join(swapped))

    def test_other_ways_ends_and_sides(self):
        for word, others in (
            ("down", ("Down", "first", "behind", "u")), ("last", ("Last", "up", "ahead", "end")),
            ("up", ("UP", "last", "first")), ("behind", ("Behind", "last", "back", "on")), ("mark", ("Mark", "marks")),
            ("key", ("Key", "keys", "price")), ("at", ("At", "key", "on")), ("price", ("cost", "Price", "prices")),
        ):
            for other in others:
                self.bad(PEN_TEXT.replace(word, other))

    def test_blanks_and_line_feeds(self):
        self.bad(" " + PEN_TEXT)
        self.bad(PEN_TEXT + " ")
        self.bad(PEN_TEXT + "\n")
        self.bad("\n" + PEN_TEXT)
        for place, sign in enumerate(PEN_TEXT):
            if sign == " ":
                for other in ("  ", "\n", " \n", "\n ", "\t", ""):
                    self.bad(PEN_TEXT[:place] + other + PEN_TEXT[place + 1:])

    def test_moments(self):
        for moment in (
            "-1", "-0", "00", "07", "+7", "7.0", "7_0", "0x7", "", "seven", "#7", "1" + "0" * 18, "9" * 19, "9" * 5000,
            "-" + "9" * 17, "0" * 18, "\u0667", "7\n",
        ):
            self.bad(f"mark {moment} price down last key up at #-5 pen2 behind")

    def test_numbers(self):
        for number in (
            "-0", "00", "05", "-05", "+5", "5.0", "5_0", "0x5", "", "-", "--5", "five", "1" + "0" * 60, "9" * 61,
            "-" + "9" * 61, "9" * 5000, "0" * 60, "\u0665", "5\n", "#5",
        ):
            self.bad(self.with_value("#" + number))

    def test_words(self):
        for word in (
            "=", "==", "=a", "=B", "a=", "=b=", "=e=", "==b", "==e", "a\n", "\n", "a" * 41, "=b" * 41, "\x7f", "\u00e4",
            "\t",
        ):
            self.bad(self.with_value('"' + word, "maker"))

    def test_values_that_are_not_written_so(self):
        for word in ("", "5", "-5", "acme", "--", "- ", "none", "None", "'acme", "=b", "~"):
            self.bad(self.with_value(word))
            self.bad(self.with_value(word, "maker"))

    def test_values_of_the_other_kind(self):
        self.bad(self.with_value('"5'))
        self.bad(self.with_value("#5", "maker"))

    def test_keys_that_are_none(self):
        for key in ("", "2pen", "Pen", "a" * 13, "pen-2", "#5", '"pen', "-", "pen\n"):
            self.bad(f"mark 7 price down last key up at #-5 {key} behind")

    def test_orders_that_are_none(self):
        self.bad("mark 7 price up last price up last key up at #5 #5 pen2 ahead")
        self.bad("mark 7 price up last price down first key up at #5 #5 pen2 ahead")
        parts = " ".join(name + " up first" for name in "abcdefghi")
        self.bad(f'mark 7 {parts} key up at {" ".join(["-"] * 9)} pen2 ahead', NINE)
        self.bad(f'mark 7 {parts} key up at {" ".join(["-"] * 9)} pen2 ahead', EIGHT)

    def test_too_many_and_too_few_values(self):
        self.bad("mark 7 price down last key up at pen2 behind")
        self.bad("mark 7 price down last key up at #5 #5 pen2 behind")
        self.bad("mark 7 key up at #5 pen2 behind")

    def test_what_is_read_is_written_as_the_same_text(self):
        """Texts with any sign put otherwise: each is refused, or is the text of what it is read as."""
        text = 'mark 10 maker up first price down last key down at "a=bb #-10 pen ahead'
        read = 0
        for place in range(len(text)):
            for sign in ["", "\n"] + list(SIGNS):
                other = text[:place] + sign + text[place + 1:]
                try:
                    mark = read_mark(GOODS, other)
                except NoMark:
                    continue
                read += 1
                with self.subTest(shown(other)):
                    self.assertEqual(mark_text(mark), other)
        self.assertGreater(read, len(text))


if __name__ == "__main__":
    unittest.main()
