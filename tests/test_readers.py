import itertools
import random
import unittest

from helper import (
    BY_KEY, BY_PRICE, EVERY, GOODS, NOTHING, SIXTY, CheckTest, all_orders, any_deed, keys_of, other_things,
    shelf_of_eight,
)
from pageturns.answers import plain
from pageturns.deeds import do_deed
from pageturns.errors import BadOrder, BadSieve, BadSize, NoMark, OldMark
from pageturns.marks import mark_text, read_mark
from pageturns.orders import is_ahead, place_of, turned, turned_gap
from pageturns.pages import page_back, page_on
from pageturns.readers import Reader
from pageturns.shelves import Shelf

ORDERS = all_orders(()) + all_orders(("price",)) + all_orders(("maker", "price"))[::7]
SIEVES = (EVERY, NOTHING, ("not", ("is", "price", 5)), ("begins", "maker", "a"))
SIZES = ((1,), (2,), (3,), (8,), (1000,), (1, 2, 3), (3, 1, 1000))


def mark_at(moment, words):
    return "mark " + str(moment) + " price down last key up at " + words


def some_reader(age=1000):
    """By price down, None last: a2 ink bag box pen a10 cap rod. Now is 8."""
    return Reader(shelf_of_eight(), age)


class ReaderTest(CheckTest):
    def hold(self, page, keys, ahead, behind, mark_back, mark_on):
        self.assertEqual((type(page), len(page), type(page[0])), (tuple, 5, list))
        self.assertEqual((type(page[1]), type(page[2])), (int, int))
        self.assertEqual((keys_of(page[0]),) + page[1:], (keys, ahead, behind, mark_back, mark_on))


class AgeTest(ReaderTest):
    def test_ages_that_are_none(self):
        for age in [-1, -2, -SIXTY, None, "", "5", (), (5,)] + other_things():
            self.hold_bad(BadSize, Reader, shelf_of_eight(), age)

    def test_marks_just_as_old_and_one_older(self):
        for age in (0, 1, 2, 5):
            shelf = shelf_of_eight()
            reader = Reader(shelf, age)
            text = reader.first(BY_PRICE, EVERY, 2)[4]
            for number in range(age + 1):
                self.assertEqual(keys_of(reader.on(text, EVERY, 2)[0]), "bag box")
                self.assertEqual(keys_of(reader.back(text, EVERY, 2)[0]), "a2 ink")
                shelf.put("z" + str(number), (0, None))
            for _ in range(3):
                self.hold_bad(OldMark, reader.on, text, EVERY, 2)
                self.hold_bad(OldMark, reader.back, text, EVERY, 2)
                shelf.change("z0", (0, None))

    def test_a_large_age(self):
        for age in (8, 1000, SIXTY):
            reader = some_reader(age)
            self.assertEqual(keys_of(reader.on(mark_at(0, "#7 ink behind"), EVERY, 2)[0]), "bag box")

    def test_two_readers_of_one_shelf(self):
        shelf = shelf_of_eight()
        young = Reader(shelf, 0)
        old = Reader(shelf, 1)
        text = young.first(BY_PRICE, EVERY, 2)[4]
        self.assertEqual(old.on(text, EVERY, 2), young.on(text, EVERY, 2))
        shelf.take("rod")
        self.hold_bad(OldMark, young.on, text, EVERY, 2)
        self.assertEqual(keys_of(old.on(text, EVERY, 2)[0]), "bag box")

    def test_a_moment_above_now(self):
        for age in (0, 5, 1000):
            reader = some_reader(age)
            self.assertEqual(keys_of(reader.on(mark_at(8, "#7 ink behind"), EVERY, 1)[0]), "bag")
            for moment in (9, 10, 1000, 10 ** 18 - 1):
                self.hold_bad(NoMark, reader.on, mark_at(moment, "#7 ink behind"), EVERY, 1)
                self.hold_bad(NoMark, reader.back, mark_at(moment, "#7 ink behind"), EVERY, 1)

    def test_a_moment_above_now_comes_to_be_now(self):
        shelf = shelf_of_eight()
        reader = Reader(shelf, 0)
        text = mark_at(9, "#7 ink behind")
        self.hold_bad(NoMark, reader.on, text, EVERY, 1)
        shelf.take("rod")
        self.assertEqual(keys_of(reader.on(text, EVERY, 1)[0]), "bag")


class FirstAndLastTest(ReaderTest):
    def test_pages_with_rows(self):
        reader = some_reader()
        self.hold(
            reader.first(BY_PRICE, EVERY, 3), "a2 ink bag", 0, 5,
            "mark 8 price down last key up at #7 a2 ahead", "mark 8 price down last key up at #5 bag behind",
        )
        self.hold(
            reader.last(BY_PRICE, EVERY, 3), "a10 cap rod", 5, 0,
            "mark 8 price down last key up at #-7 a10 ahead", "mark 8 price down last key up at - rod behind",
        )
        self.hold(
            reader.first(BY_KEY, ("is", "price", 5), 1), "bag", 0, 2,
            "mark 8 key up at bag ahead", "mark 8 key up at bag behind",
        )
        by_maker = ((("maker", "down", "last"), ("price", "up", "first")), "down")
        self.hold(
            reader.first(by_maker, EVERY, 2), "cap a10", 0, 6,
            'mark 8 maker down last price up first key down at "bolt - cap ahead',
            'mark 8 maker down last price up first key down at "acme=bco #-7 a10 behind',
        )

    def test_pages_without_rows_have_no_marks(self):
        reader = some_reader()
        for ask in (reader.first, reader.last):
            self.hold(ask(BY_PRICE, NOTHING, 3), "", 0, 0, None, None)
            self.hold(ask(BY_KEY, ("key", ()), 1000), "", 0, 0, None, None)
        empty = Reader(Shelf(()), 0)
        self.hold(empty.first(BY_KEY, EVERY, 1), "", 0, 0, None, None)
        self.hold(empty.last(BY_KEY, EVERY, 1), "", 0, 0, None, None)

    def test_of_the_shelf_as_it_stands_then(self):
        shelf = shelf_of_eight()
        reader = Reader(shelf, 0)
        shelf.take("a2")
        shelf.put("zoo", (None, None))
        self.hold(
            reader.first(BY_PRICE, EVERY, 1), "ink", 0, 7,
            mark_at(10, "#7 ink ahead"), mark_at(10, "#7 ink behind"),
        )
        self.hold(
            reader.last(BY_PRICE, EVERY, 1), "zoo", 7, 0,
            mark_at(10, "- zoo ahead"), mark_at(10, "- zoo behind"),
        )

    def test_refusals(self):
        reader = some_reader()
        for thing in [None, (), "up", 0] + other_things():
            for ask in (reader.first, reader.last):
                self.hold_bad(BadOrder, ask, thing, EVERY, 5)
                self.hold_bad(BadSieve, ask, BY_PRICE, thing, 5)
                self.hold_bad(BadSize, ask, BY_PRICE, EVERY, thing)
        self.hold_first(
            (reader.first, reader.last), ((BY_PRICE,), (EVERY,), (5,)),
            ((None, ((("cost", "up", "last"),), "up")), (None, ("is", "cost", 5)), (0, 1001, None)),
            (BadOrder, BadSieve, BadSize),
        )


class OnAndBackTest(ReaderTest):
    def test_marks_of_this_moment(self):
        reader = some_reader(0)
        text = reader.first(BY_PRICE, EVERY, 3)[4]
        self.hold(
            reader.on(text, EVERY, 2), "box pen", 3, 3, mark_at(8, "#5 box ahead"), mark_at(8, "#5 pen behind"),
        )
        self.hold(
            reader.back(text, EVERY, 2), "ink bag", 1, 5, mark_at(8, "#7 ink ahead"), mark_at(8, "#5 bag behind"),
        )
        text = reader.last(BY_PRICE, EVERY, 3)[3]
        self.hold(
            reader.back(text, EVERY, 2), "box pen", 3, 3, mark_at(8, "#5 box ahead"), mark_at(8, "#5 pen behind"),
        )
        self.hold(reader.on(text, EVERY, 1), "a10", 5, 2, mark_at(8, "#-7 a10 ahead"), mark_at(8, "#-7 a10 behind"))

    def test_marks_of_earlier_moments_of_rows_that_are_gone_or_changed(self):
        shelf = shelf_of_eight()
        reader = Reader(shelf, 2)
        text = mark_at(8, "#5 box behind")
        shelf.take("box")
        self.hold(
            reader.on(text, EVERY, 2), "pen a10", 3, 2, mark_at(9, "#5 pen ahead"), mark_at(9, "#-7 a10 behind"),
        )
        self.hold(
            reader.back(text, EVERY, 1), "bag", 2, 4, mark_at(9, "#5 bag ahead"), mark_at(9, "#5 bag behind"),
        )
        shelf.put("box", (9, None))
        self.assertEqual(keys_of(reader.on(text, EVERY, 9)[0]), "pen a10 cap rod")
        self.assertEqual(keys_of(reader.back(text, EVERY, 9)[0]), "box a2 ink bag")

    def test_rows_that_move(self):
        shelf = shelf_of_eight()
        reader = Reader(shelf, 5)
        text = mark_at(8, "#5 box behind")
        shelf.change("box", (None, None))
        self.assertEqual(keys_of(reader.on(text, EVERY, 9)[0]), "pen a10 box cap rod")
        self.assertEqual(keys_of(reader.back(text, EVERY, 9)[0]), "a2 ink bag")

    def test_places_of_no_row(self):
        reader = some_reader()
        for side in ("ahead", "behind"):
            text = mark_at(3, "#6 zz " + side)
            self.hold(
                reader.on(text, EVERY, 1), "bag", 2, 5, mark_at(8, "#5 bag ahead"), mark_at(8, "#5 bag behind"),
            )
            self.hold(
                reader.back(text, EVERY, 1), "ink", 1, 6, mark_at(8, "#7 ink ahead"), mark_at(8, "#7 ink behind"),
            )

    def test_marks_of_another_shelf_of_the_same_columns(self):
        other = Shelf(GOODS)
        other.put("pad", (6, "bolt"))
        other.put("nib", (1, "bolt"))
        text = Reader(other, 0).first(BY_PRICE, ("is", "maker", "bolt"), 1)[4]
        self.assertEqual(text, mark_at(2, "#6 pad behind"))
        self.assertEqual(keys_of(some_reader(6).on(text, EVERY, 3)[0]), "bag box pen")
        self.hold_bad(OldMark, some_reader(5).on, text, EVERY, 3)

    def test_marks_of_other_columns(self):
        other = Shelf((("price", "word"), ("maker", "word")))
        other.put("pad", ("6", "bolt"))
        for order in (BY_PRICE, ((("maker", "up", "first"), ("price", "up", "first")), "up")):
            text = Reader(other, 0).first(order, EVERY, 1)[4]
            self.hold_bad(NoMark, some_reader().on, text, EVERY, 3)
            self.hold_bad(NoMark, some_reader().back, text, EVERY, 3)
        text = Reader(other, 0).first(BY_KEY, EVERY, 1)[4]
        self.assertEqual(keys_of(some_reader().on(text, EVERY, 3)[0]), "pen rod")

    def test_any_sieve_and_size_behind_a_mark(self):
        reader = some_reader()
        text = reader.first(BY_PRICE, ("is", "price", 7), 2)[4]
        self.assertEqual(keys_of(reader.on(text, ("is", "price", 5), 1000)[0]), "bag box pen")
        self.assertEqual(keys_of(reader.on(text, ("is", "price", None), 1)[0]), "cap")
        self.assertEqual(keys_of(reader.back(text, ("begins", "maker", "ac"), 5)[0]), "ink")

    def test_pages_without_rows_have_marks_of_the_gap_handed_in_and_of_now(self):
        reader = some_reader()
        behind = "- rod behind"
        self.hold(reader.on(mark_at(3, behind), EVERY, 2), "", 8, 0, mark_at(8, behind), mark_at(8, behind))
        ahead = "#7 a2 ahead"
        self.hold(reader.back(mark_at(8, ahead), EVERY, 2), "", 0, 8, mark_at(8, ahead), mark_at(8, ahead))
        for words in ("#5 box ahead", "#6 zz behind", "- a ahead"):
            for ask in (reader.on, reader.back):
                self.hold(ask(mark_at(0, words), NOTHING, 2), "", 0, 0, mark_at(8, words), mark_at(8, words))
        five = ("is", "price", 5)
        self.hold(reader.on(mark_at(0, "#0 a behind"), five, 2), "", 3, 0, mark_at(8, "#0 a behind"),
                  mark_at(8, "#0 a behind"))
        self.hold(reader.back(mark_at(0, "#6 a behind"), five, 2), "", 0, 3, mark_at(8, "#6 a behind"),
                  mark_at(8, "#6 a behind"))

    def test_what_comes_behind_a_page_without_rows(self):
        shelf = shelf_of_eight()
        reader = Reader(shelf, 1)
        text = reader.on(reader.last(BY_PRICE, EVERY, 1)[4], EVERY, 2)[4]
        shelf.put("zoo", (None, "late"))
        self.hold(reader.on(text, EVERY, 2), "zoo", 8, 0, mark_at(9, "- zoo ahead"), mark_at(9, "- zoo behind"))

    def test_as_the_pages_of_the_shelf(self):
        shelf = shelf_of_eight()
        reader = Reader(shelf, 8)
        for order, sieve, size in itertools.product(ORDERS, SIEVES, (1, 3, 1000)):
            places = [place_of(GOODS, order, row) for row in shelf.all_at()]
            for place, side in itertools.product(places, ("ahead", "behind")):
                text = mark_text((4, order, (place, side)))
                given = (order, sieve, size, (place, side))
                self.assertEqual(reader.on(text, sieve, size)[:3], page_on(shelf, *given))
                self.assertEqual(reader.back(text, sieve, size)[:3], page_back(shelf, *given))


class RefusedMarkTest(ReaderTest):
    def test_texts_that_are_no_mark(self):
        reader = some_reader()
        good = mark_at(8, "#5 box behind")
        for text in (
            "", " ", "mark", "mark 8", good + " ", " " + good, good.replace(" ", "  ", 1), good + "\n",
            good.replace("mark", "Mark"), good.replace("8", "08"), good.replace("8", "-8"), good.replace("8", "+8"),
            good.replace("price", "cost"), good.replace("down", "Down"), good.replace("last", "end"),
            good.replace("key", "keys"), good.replace(" up", " "), good.replace("at", "to"),
            good.replace("#5", "5"), good.replace("#5", "#05"), good.replace("#5", "#-0"), good.replace("#5", '"5'),
            good.replace("box", "Box"), good.replace("box", ""), good.replace("behind", "at"),
            good.replace("#5 ", ""), good.replace("#5", "#5 #5"), "none", "start", "end",
            good.replace("8", "1" * 19), good.replace("#5", "#" + "1" * 61),
        ):
            self.hold_bad(NoMark, reader.on, text, EVERY, 2)
            self.hold_bad(NoMark, reader.back, text, EVERY, 2)

    def test_what_is_no_text(self):
        reader = some_reader()
        mark = (8, BY_PRICE, (((5,), "box"), "behind"))
        for thing in [None, 0, 8, (), mark, (mark_text(mark),), mark_text(mark).encode()] + other_things():
            self.hold_bad(NoMark, reader.on, thing, EVERY, 2)
            self.hold_bad(NoMark, reader.back, thing, EVERY, 2)

    def test_sieves_and_sizes(self):
        reader = some_reader()
        text = mark_at(8, "#5 box behind")
        for thing in [None, (), "every", ("is", "cost", 5)] + other_things():
            self.hold_bad(BadSieve, reader.on, text, thing, 2)
            self.hold_bad(BadSieve, reader.back, text, thing, 2)
        for thing in [0, -1, 1001, SIXTY, None, "5", ()] + other_things():
            self.hold_bad(BadSize, reader.on, text, EVERY, thing)
            self.hold_bad(BadSize, reader.back, text, EVERY, thing)

    def test_of_several_the_first_one_is_raised(self):
        reader = some_reader(3)
        asks = (reader.on, reader.back)
        good = (mark_at(5, "#5 box behind"), mark_at(8, "#5 box behind"))
        wrong = ((None, ("not", ("not",))), (0, True))
        for texts, error in (
            ((mark_at(4, "#5 box behind"), mark_at(0, "#5 box behind")), OldMark),
            ((None, "", mark_at(9, "#5 box behind"), mark_at(0, "#5 Box behind"), mark_at(0, '"5 box behind')), NoMark),
        ):
            self.hold_first(asks, (good, (EVERY,), (2,)), (texts,) + wrong, (error, BadSieve, BadSize))


class EndToEndTest(unittest.TestCase):
    def pages(self, page, go, mark, sieve, sizes):
        """Pages by marks to the first one without rows."""
        pages = [page]
        for size in itertools.cycle(sizes):
            if not pages[-1][0]:
                return pages
            pages.append(go(pages[-1][mark], sieve, size))

    def test_pages_by_marks_laid_end_to_end_are_the_plain_answer(self):
        reader = some_reader(0)
        for order, sieve, sizes in itertools.product(ORDERS, SIEVES, SIZES):
            with self.subTest(order=order, sieve=sieve, sizes=sizes):
                answer = plain(reader.shelf, order, sieve)
                pages = self.pages(reader.first(order, sieve, 2), reader.on, 4, sieve, sizes)
                self.assertEqual([row for page in pages for row in page[0]], answer)
                self.assertEqual(pages[-1][1:3], (len(answer), 0))
                pages = self.pages(reader.last(order, sieve, 2), reader.back, 3, sieve, sizes)
                self.assertEqual([row for page in reversed(pages) for row in page[0]], answer)
                self.assertEqual(pages[-1][1:3], (0, len(answer)))

    def test_told_marks_handed_in_again(self):
        reader = some_reader(0)
        for order, sieve, size in itertools.product(ORDERS, SIEVES, (1, 3, 1000)):
            for ask, page in (
                (reader.on, reader.first(order, sieve, size)), (reader.back, reader.last(order, sieve, size)),
            ):
                if not page[0]:
                    continue
                # On from a page's fore gap, and back from its hinder gap, it is the page once more.
                self.assertEqual(reader.on(page[3], sieve, size), page)
                self.assertEqual(reader.back(page[4], sieve, size), page)
                for text, row, side in ((page[3], page[0][0], "ahead"), (page[4], page[0][-1], "behind")):
                    self.assertEqual(read_mark(GOODS, text), (8, order, (place_of(GOODS, order, row), side)))


class WithDeedsTest(unittest.TestCase):
    KEYS = tuple("abcdefgh")

    def reader_by_chance(self, chance):
        shelf = Shelf(GOODS)
        for _ in range(30):
            do_deed(shelf, any_deed(chance, shelf, self.KEYS))
        return Reader(shelf, 1000)

    def question_by_chance(self, chance):
        return (chance.choice(ORDERS), chance.choice(SIEVES), chance.randint(1, 4))

    def test_back_behind_takings_alone(self):
        chance = random.Random(3)
        for _ in range(300):
            reader = self.reader_by_chance(chance)
            shelf = reader.shelf
            order, sieve, size = self.question_by_chance(chance)
            page = reader.first(order, sieve, size)
            if chance.random() < 0.7 and page[0]:
                page = reader.on(page[4], sieve, size)
            for key, worths in chance.sample(shelf.all_at(), chance.randint(0, len(shelf.all_at()))):
                shelf.take(key)
            if not page[0]:
                continue
            gap = read_mark(GOODS, page[4])[2]
            ahead = [row for row in plain(shelf, order, sieve) if is_ahead(order, place_of(GOODS, order, row), gap)]
            kept = [row for row in page[0] if shelf.worths_at(row[0]) is not None]
            others = ahead[:len(ahead) - len(kept)]
            self.assertEqual(others + kept, ahead)
            room = size - len(kept)
            self.assertEqual(reader.back(page[4], sieve, size)[0], others[max(len(others) - room, 0):] + kept)

    def test_a_page_back_is_the_page_on_of_the_order_turned_over(self):
        chance = random.Random(4)
        for _ in range(300):
            reader = self.reader_by_chance(chance)
            order, sieve, size = self.question_by_chance(chance)
            rows, ahead, behind, mark_back, mark_on = reader.first(turned(order), sieve, size)
            page = reader.last(order, sieve, size)
            self.assertEqual(page[:3], (rows[::-1], behind, ahead))
            if not rows:
                continue
            moment, other, gap = read_mark(GOODS, page[3])
            text = mark_text((moment, turned(other), turned_gap(gap)))
            self.assertEqual(text, mark_on)
            do_deed(reader.shelf, any_deed(chance, reader.shelf, self.KEYS))
            rows, ahead, behind, mark_back, mark_on = reader.on(text, sieve, size)
            self.assertEqual(reader.back(page[3], sieve, size)[:3], (rows[::-1], behind, ahead))


class UnchangedTest(CheckTest):
    def test_lists_that_were_told_are_the_askers_own(self):
        reader = some_reader()
        text = mark_at(8, "#5 box behind")
        for ask in (
            lambda: reader.first(BY_PRICE, EVERY, 1000), lambda: reader.last(BY_PRICE, EVERY, 2),
            lambda: reader.first(BY_PRICE, NOTHING, 2), lambda: reader.on(text, EVERY, 3),
            lambda: reader.back(text, EVERY, 3), lambda: reader.back(text, NOTHING, 3),
        ):
            right = ask()[1:]
            self.hold_own(lambda: ask()[0])
            self.assertEqual(ask()[1:], right)

    def test_telling_and_refusing_change_nothing(self):
        reader = some_reader(2)
        text = mark_at(8, "#5 box behind")
        pages = [reader.first(BY_PRICE, EVERY, 3), reader.on(text, EVERY, 3), reader.back(text, EVERY, 3)]
        self.hold_bad(BadOrder, reader.first, None, EVERY, 3)
        self.hold_bad(BadSieve, reader.on, text, None, 3)
        self.hold_bad(BadSize, reader.back, text, EVERY, 0)
        self.hold_bad(OldMark, reader.on, mark_at(5, "#5 box behind"), EVERY, 3)
        self.hold_bad(NoMark, reader.on, mark_at(9, "#5 box behind"), EVERY, 3)
        again = [reader.first(BY_PRICE, EVERY, 3), reader.on(text, EVERY, 3), reader.back(text, EVERY, 3)]
        self.assertEqual(again, pages)
        self.assertEqual(reader.shelf.history(), shelf_of_eight().history())


if __name__ == "__main__":
    unittest.main()
