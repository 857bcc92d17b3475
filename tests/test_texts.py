import itertools
import random
import unittest

from helper import BY_KEY, BY_PRICE, EVERY, GOODS, SIXTY, CheckTest, all_orders, other_things, shown
from pageturns.errors import BadColumns, BadOrder, BadRow, BadSieve, NoText
from pageturns.texts import (
    read_columns, read_order, read_row, read_sieve, show_columns, show_order, show_row, show_sieve,
)

SIGNS = "".join(chr(code) for code in range(32, 127))
EIGHT = tuple((name, "number") for name in "abcdefgh")
ODD = (("key", "word"), ("up", "number"), ("every", "word"), ("number", "word"), ("first", "number"))
NO_VALUES = (
    "", "5", "acme", "#", "#05", "#00", "#-0", "#+5", "#-05", "#--5", "#5-", "#5.0", "#1e3", "#1_0", "# 5", "##5", "#a",
    "#" + "1" * 61, "#-" + "1" * 61, "--", "-5", "-#5", "None", '"' + "a" * 41, '"' + "=b" * 41, '"=', '"=x', '"==',
    '"a=', '"=B', '"=be=', "'a", "a\"", '"a\nb', '"\n', "#5\n", "-\n", "|", "=b", "=e", "\n",
)


def tower(depth):
    """A text of a sieve so deep."""
    return "( not " * (depth - 1) + "( every )" + " )" * (depth - 1)


def nested(depth):
    sieve = EVERY
    for _ in range(depth - 1):
        sieve = ("not", sieve)
    return sieve


class TextTest(CheckTest):
    def hold(self, show, read, thing, text):
        """It is written so, and read so, as the same kinds."""
        with self.subTest(text=shown(text)):
            for _ in range(2):
                self.assertEqual(show(thing), text)
                told = read(text)
                self.assertEqual(repr(told), repr(thing))
                self.assertEqual(show(told), text)


class RowTest(TextTest):
    def hold_row(self, row, text, columns=GOODS):
        self.hold(show_row, lambda given: read_row(columns, given), row, text)

    def bad(self, error, *texts, columns=GOODS):
        for text in texts:
            self.hold_bad(error, read_row, columns, text)

    def test_each_kind_of_value(self):
        self.hold_row(("pen2", (5, "acme")), 'pen2 #5 "acme')
        self.hold_row(("a", (-5, None)), "a #-5 -")
        self.hold_row(("a", (0, "")), 'a #0 "')
        self.hold_row(("a", (None, " ")), 'a - "=b')
        self.hold_row(("abcdefghijkl", (SIXTY, "a =b")), "abcdefghijkl #" + "9" * 60 + ' "a=b=eb')
        self.hold_row(("a12345678901", (-SIXTY, "=" * 40)), "a12345678901 #-" + "9" * 60 + ' "' + "=e" * 40)
        for word in list(SIGNS) + ["( )", "-", "#5", '""', "=b", "=e", "~" * 40, " " * 40]:
            self.hold_row(("pen", (1, word)), 'pen #1 "' + word.replace("=", "=e").replace(" ", "=b"))

    def test_no_columns(self):
        self.hold_row(("pen", ()), "pen", ())

    def test_eight_columns(self):
        self.hold_row(("a", tuple(range(8))), "a " + " ".join("#" + str(number) for number in range(8)), EIGHT)

    def test_keys_that_are_none(self):
        for key in ("", "Pen", "2pen", "pen!", "abcdefghijklm", "#5", "-", '"', "pe\nn", "pen\n", "|", "()"):
            self.bad(BadRow, key + ' #5 "acme')
            self.bad(BadRow, key, columns=())

    def test_the_text_without_signs_is_a_rows(self):
        self.bad(BadRow, "")
        self.bad(BadRow, "", columns=())

    def test_brackets_for_a_key(self):
        self.bad(NoText, '( #5 "acme', ') #5 "acme', "(", ")")
        self.bad(NoText, "(", ")", columns=())

    def test_values_that_are_not_written_so(self):
        for word in NO_VALUES + ("(", ")"):
            self.bad(NoText, "pen " + word + ' "acme', "pen #5 " + word, "pen #5 - " + word, "Pen #5 " + word)
            self.bad(NoText, "pen " + word, columns=())

    def test_blanks(self):
        self.bad(NoText, ' pen #5 "acme', 'pen  #5 "acme', 'pen #5 "acme ', "pen ", " ", "  ", " pen")
        # A blank ahead is a key without signs: what stands behind it must be values.
        self.bad(BadRow, ' #5 "acme', " - -", ' "')

    def test_texts_that_fit_no_columns(self):
        self.bad(BadRow, "pen", "pen #5", 'pen #5 "acme -', 'pen "acme #5', "pen #5 #5", 'pen "5 "acme')
        self.bad(BadRow, "pen" + " -" * 9, "pen" + " #5" * 1000)
        self.bad(BadRow, "pen -", columns=())

    def test_what_is_no_text(self):
        self.bad(NoText, *([None, 5, (), ("pen", (5, "acme")), b"pen"] + other_things()))


class OrderTest(TextTest):
    def hold_order(self, order, text, columns=GOODS):
        self.hold(show_order, lambda given: read_order(columns, given), order, text)

    def bad(self, error, *texts, columns=GOODS):
        for text in texts:
            self.hold_bad(error, read_order, columns, text)

    def test_orders(self):
        self.hold_order(BY_KEY, "key up")
        self.hold_order(((), "down"), "key down", ())
        self.hold_order(BY_PRICE, "price down last key up")
        both = ((("maker", "up", "first"), ("price", "down", "last")), "down")
        self.hold_order(both, "maker up first price down last key down")
        for order in all_orders(("maker", "price")) + all_orders(("price",)):
            words = [word for part in order[0] for word in part]
            self.hold_order(order, " ".join(words + ["key", order[1]]))

    def test_none_to_nine_parts(self):
        for count in range(9):
            order = (tuple((name, "up", "last") for name in "hgfedcba"[:count]), "up")
            self.hold_order(order, "".join(name + " up last " for name in "hgfedcba"[:count]) + "key up", EIGHT)
        self.bad(BadOrder, "".join(name + " up last " for name in "abcdefgha") + "key up", columns=EIGHT)
        self.bad(BadOrder, "".join(name + " up last " for name in "abcdefghi") + "key up", columns=EIGHT)

    def test_columns_called_like_words_of_an_order(self):
        for names in itertools.permutations(("key", "up", "first")):
            order = (tuple((name, "up", "first") for name in names), "down")
            self.hold_order(order, " ".join(name + " up first" for name in names) + " key down", ODD)

    def test_words_too_few_and_too_many(self):
        self.bad(
            NoText, "", "key", "up", "key up up", "up key", "price down last key", "price down last", "price key up",
            "price down key up", "price down last last key up", "price down last price down key up", "price down last",
            "price down last key up key up", "price down last up key", "price down last kye up",
            "price down last Key up",
            "price down last  up", "price down last key", "mark 7 price down last key up",
        )

    def test_brackets(self):
        for text in ("price down last key up", "key up"):
            words = text.split()
            for place in range(len(words)):
                for bracket in ("(", ")"):
                    self.bad(NoText, " ".join(words[:place] + [bracket] + words[place + 1:]))
        self.bad(NoText, "( key up )", "( price down last key up )")

    def test_blanks_and_line_feeds(self):
        self.bad(NoText, " key up", "key up ", "key  up", " ", "  ", "price  down last key up", "key\nup", "key\n up")
        self.bad(BadOrder, "   key up", "key ", "price down  key up", " down last key up", "key up\n", "key \n")

    def test_texts_that_fit_no_columns(self):
        self.bad(
            BadOrder, "cost down last key up", "price Down last key up", "price down end key up",
            "price down last key Up",
            "price last down key up", "price down last price up last key up", "Price down last key up", "key key",
            "#5 - \" key up", "price down last key down!",
        )
        self.bad(BadOrder, "price down last key up", columns=())

    def test_what_is_no_text(self):
        self.bad(NoText, *([None, 5, (), BY_PRICE, b"key up"] + other_things()))


class ColumnsTest(TextTest):
    def bad(self, error, *texts):
        for text in texts:
            self.hold_bad(error, read_columns, text)

    def test_columns(self):
        for columns, text in (
            ((), ""), (GOODS, "price number maker word"), ((("a", "word"),), "a word"),
            (EIGHT, " ".join(name + " number" for name in "abcdefgh")),
            (ODD, "key word up number every word number word first number"),
            ((("abcdefgh", "number"),), "abcdefgh number"),
        ):
            self.hold(show_columns, read_columns, columns, text)

    def test_an_odd_number_of_words(self):
        self.bad(NoText, "price", "number", "price number maker", "  ", "price number ", " price number")
        self.bad(NoText, "price  number", "\n")

    def test_brackets(self):
        self.bad(NoText, "( number", "price )", "price (", "( price number )", "price number ( word", "( )")

    def test_columns_that_are_none(self):
        self.bad(
            BadColumns, " ", "price ", " number", "price text", "Price number", "price Number", "number price",
            "abcdefghi number", "a number a word", "a number a number", "price number\n", "price\n number", "#5 -",
            " ".join(name + " number" for name in "abcdefghi"), " ".join(["a number"] * 300), "   ",
        )

    def test_what_is_no_text(self):
        self.bad(NoText, *([None, 5, (), GOODS, b""] + other_things()))


class SieveTest(TextTest):
    PAIRS = (
        (EVERY, "( every )"),
        (("is", "price", 5), "( is price #5 )"), (("is", "price", None), "( is price - )"),
        (("is", "maker", "a =b"), '( is maker "a=b=eb )'), (("is", "maker", ""), '( is maker " )'),
        (("is", "maker", ")"), '( is maker ") )'), (("is", "maker", "( every )"), '( is maker "(=bevery=b) )'),
        (("below", "price", -5), "( below price #-5 )"), (("below", "maker", "a"), '( below maker "a )'),
        (("above", "price", SIXTY), "( above price #" + "9" * 60 + " )"), (("above", "maker", ""), '( above maker " )'),
        (("begins", "maker", "ac"), '( begins maker "ac )'), (("begins", "maker", ""), '( begins maker " )'),
        (("key", ()), "( key )"), (("key", ("a",)), "( key a )"), (("key", ("a", "b2", "a")), "( key a b2 a )"),
        (("key", ("every", "key", "not", "and", "or", "is", "below", "begins")),
         "( key every key not and or is below begins )"),
        (("not", EVERY), "( not ( every ) )"), (("not", ("key", ())), "( not ( key ) )"),
        (("and", ()), "( and )"), (("or", ()), "( or )"), (("and", (EVERY,)), "( and ( every ) )"),
        (("or", (("key", ("a",)), ("not", EVERY))), "( or ( key a ) ( not ( every ) ) )"),
        (("and", (EVERY,) * 8), "( and" + " ( every )" * 8 + " )"),
        (("or", (("and", ()), ("or", ()), ("is", "price", 5))), "( or ( and ) ( or ) ( is price #5 ) )"),
    )

    def hold_sieve(self, sieve, text, columns=GOODS):
        self.hold(show_sieve, lambda given: read_sieve(columns, given), sieve, text)

    def bad(self, error, *texts, columns=GOODS):
        for text in texts:
            self.hold_bad(error, read_sieve, columns, text)

    def test_each_kind(self):
        for sieve, text in self.PAIRS:
            self.hold_sieve(sieve, text)

    def test_columns_called_like_words_of_a_sieve(self):
        self.hold_sieve(("is", "every", "every"), '( is every "every )', ODD)
        self.hold_sieve(("above", "key", "key"), '( above key "key )', ODD)

    def test_eight_and_nine_at_dots(self):
        self.hold_sieve(("key", tuple("abcdefgh")), "( key a b c d e f g h )")
        self.bad(BadSieve, "( key a b c d e f g h i )", "( key" + " a" * 1000 + " )")
        for word in ("and", "or"):
            self.hold_sieve((word, (EVERY,) * 8), "( " + word + " ( every )" * 8 + " )")
            self.bad(BadSieve, "( " + word + " ( every )" * 9 + " )", "( " + word + " ( key )" * 300 + " )")

    def test_eight_and_nine_deep(self):
        for depth in range(1, 9):
            self.hold_sieve(nested(depth), tower(depth))
        for depth in (9, 10, 100, 1000, 5000, 20000):
            with self.assertRaises((BadSieve, NoText)):
                read_sieve(GOODS, tower(depth))
        sieve = ("and", ())
        for _ in range(7):
            sieve = ("or", (sieve,))
        self.hold_sieve(sieve, "( or " * 7 + "( and )" + " )" * 7)

    def test_towers_that_are_not_closed(self):
        for depth in (2, 9, 1000, 20000):
            self.bad(NoText, "( not " * depth + "( every )", "( not " * depth)
            self.bad(NoText, "( not " * depth + "( every" + " )" * depth)
            self.bad(NoText, "( every )" + " )" * depth, "( not" * depth, ") " * depth, "( " * depth, "(" * depth)
            self.bad(NoText, tower(depth) + " )", tower(depth)[:-2], tower(depth)[2:])
            self.bad(NoText, tower(depth).replace("every", "all"))

    def test_two_hundred_and_two_hundred_and_one_parts(self):
        # One and, eight ors in it, and so on: 1 + 8 + 64 + 127 is two hundred.
        def sieve_of(leaves):
            inner = []
            for place in range(64):
                many = 2 if place < leaves - 64 else 1
                inner.append(("or", (EVERY,) * many) if place < leaves else ("or", ()))
            return ("and", tuple(("and", tuple(inner[begin:begin + 8])) for begin in range(0, 64, 8)))

        self.hold_sieve(sieve_of(127), show_sieve(sieve_of(127)))
        self.assertEqual(show_sieve(sieve_of(127)).count("("), 200)
        text = show_sieve(sieve_of(128))
        self.assertEqual(text.count("("), 201)
        with self.assertRaises((BadSieve, NoText)):
            read_sieve(GOODS, text)

    def test_words_too_few_and_too_many(self):
        self.bad(
            NoText, "", "every", "( )", "( every", "every )", "( every every )", "( every ( every ) )", "( every #5 )",
            "( is )", "( is price )", "( is price #5 #5 )", "( is #5 )", "( is price ( every ) )",
            "( is ( every ) #5 )",
            "( below price )", "( above )", '( begins maker "a "b )', "( begins maker )", "( key ( every ) )",
            "( key a ( key ) )", "( not )", "( not every )", "( not ( every ) ( every ) )", "( not ( every ) every )",
            "( and every )", "( and ( every ) a )", "( or a )", "( or a ( every ) )", "( and #5 )", "( ( every ) )",
            "( ( every ) ( every ) )", "( every ) ( every )", "( every ) every", "every ( every )", "( every ) )",
            "( ( every )", ") every (", ")", "(", "( every ) (", ") ( every )", "( and ( or ) ) ( key )",
        )

    def test_another_word_behind_a_bracket(self):
        self.bad(
            NoText, "( all )", "( Every )", "( is? price #5 )", "( price is #5 )", "( keys a )", "( nor ( every ) )",
            "( #5 )", "( - )", '( "every )', "(  )", "( every\n )", "( \n )", "( ) )", "( equals price #5 )",
        )

    def test_every_bracket_left_out_put_in_or_twice(self):
        for sieve, text in self.PAIRS:
            words = text.split(" ")
            for place, word in enumerate(words):
                if word in ("(", ")"):
                    self.bad(NoText, " ".join(words[:place] + words[place + 1:]))
                for bracket in ("(", ")"):
                    self.bad(NoText, " ".join(words[:place] + [bracket] + words[place:]))
            self.bad(NoText, text + " (", text + " )")

    def test_every_blank_twice_and_at_an_end(self):
        for sieve, text in self.PAIRS:
            self.bad(NoText, " " + text, text + " ", text + "\n", "\n" + text)
            for place, sign in enumerate(text):
                if sign == " ":
                    error = NoText
                    # Within ( key .. ) the word without signs stands where a key should.
                    if sieve[0] == "key" and text[:place].startswith("( key"):
                        error = BadSieve
                    if "( key" in text and sieve[0] != "key":
                        continue
                    self.bad(error, text[:place] + " " + text[place:])

    def test_blanks_among_keys(self):
        self.bad(BadSieve, "( key  )", "( key a  )", "( key  a )", "( not ( key  ) )", "( and ( key a  ) )")
        self.bad(NoText, "(  key a )", "( not  ( key a ) )", "( not ( key a )  )")
        self.bad(BadSieve, "( is  #5 )", "( is  - )")

    def test_values_that_are_not_written_so(self):
        for word in NO_VALUES:
            for head in ("is price", "below price", "above maker", "begins maker", "is cost"):
                self.bad(NoText, "( " + head + " " + word + " )", "( not ( " + head + " " + word + " ) )")

    def test_texts_that_fit_no_columns(self):
        self.bad(
            BadSieve, "( is cost #5 )", "( is Price #5 )", '( is price "a )', "( is maker #5 )", "( below price - )",
            "( above maker - )", "( begins maker - )", '( begins price "a )', "( begins maker #5 )",
            "( begins price #5 )",
            "( key A )", "( key 2a )", "( key abcdefghijklm )", "( key a| )", "( key #5 )", "( key - )", "( key a\nb )",
            "( not ( is cost #5 ) )", "( or ( every ) ( is maker #5 ) )", "( is every #5 )", "( is | #5 )",
            "( is key - )",
        )
        self.bad(BadSieve, "( is price #5 )", columns=())

    def test_not_written_so_goes_ahead_of_what_fits_no_columns(self):
        self.bad(NoText, "( and ( is cost #5 ) ( is price 5 ) )", "( key A ( every ) )")
        self.bad(NoText, "( not ( is cost #5 ) ( every ) )")

    def test_what_is_no_text(self):
        self.bad(NoText, *([None, 5, (), EVERY, b"( every )"] + other_things()))


class ByChanceTest(TextTest):
    WORDS = ("(", ")", "every", "is", "key", "not", "and", "or", "price", "maker", "#5", "-", '"a', "a", "")

    def sieve(self, chance, depth):
        flat = ("every", "is", "below", "begins", "key")
        word = chance.choice(flat + ("not", "and", "or") if depth > 1 else flat)
        if word == "not":
            return (word, self.sieve(chance, depth - 1))
        if word in ("and", "or"):
            return (word, tuple(self.sieve(chance, depth - 1) for _ in range(chance.randint(0, 3))))
        return {
            "every": EVERY, "is": ("is", "price", chance.choice((None, 0, -7))), "below": ("below", "maker", " ="),
            "begins": ("begins", "maker", chance.choice(("", "(", ")"))),
            "key": ("key", ("a", "b2")[:chance.randint(0, 2)]),
        }[word]

    def test_what_is_written_is_read_as_the_same(self):
        chance = random.Random(17)
        for _ in range(500):
            sieve = self.sieve(chance, 5)
            text = show_sieve(sieve)
            self.hold(show_sieve, lambda given: read_sieve(GOODS, given), sieve, text)

    def test_what_is_read_is_written_as_the_same_text(self):
        chance = random.Random(18)
        readers = (
            (show_row, lambda text: read_row(GOODS, text)), (show_order, lambda text: read_order(GOODS, text)),
            (show_sieve, lambda text: read_sieve(GOODS, text)), (show_columns, read_columns),
        )
        read_ones = 0
        for _ in range(1000):
            texts = [" ".join(chance.choices(self.WORDS, k=chance.randint(1, 6)))]
            words = show_sieve(self.sieve(chance, 3)).split(" ")
            words[chance.randrange(len(words))] = chance.choice(self.WORDS)
            texts.append(" ".join(words))
            for text, (show, read) in itertools.product(texts, readers):
                try:
                    told = read(text)
                except (NoText, BadRow, BadOrder, BadSieve, BadColumns):
                    continue
                self.assertEqual(show(told), text)
                read_ones += 1
        self.assertGreater(read_ones, 50)


if __name__ == "__main__":
    unittest.main()
