import itertools
import random
import unittest
from functools import partial

from helper import (
    BY_KEY, BY_PRICE, EVERY, GOODS, NOTHING, SIXTY, CheckTest, all_orders, any_deed, keys_of, other_things,
    shelf_of_eight,
)
from pageturns.answers import count_of, plain
from pageturns.deeds import do_deed
from pageturns.errors import BadOrder, BadSieve, BadSize
from pageturns.orders import is_ahead, place_of, turned, turned_gap
from pageturns.pages import gaps_of, page_back, page_on, stretch
from pageturns.shelves import Shelf
from pageturns.sieves import passes
from pageturns.walks import Walk

ORDERS = all_orders(()) + all_orders(("price",)) + all_orders(("maker", "price"))[::7]
SIEVES = (EVERY, NOTHING, ("not", ("is", "price", 1)), ("begins", "maker", "a"))
KEYS = tuple("abcdefghij")
FIVE = ("is", "price", 5)


def gap_at(price, key, side):
    return (((price,), key), side)


def some_walk(size=3, sieve=EVERY, order=BY_PRICE):
    """By price down, None last: a2 ink bag box pen a10 cap rod. Now is 8."""
    return Walk(shelf_of_eight(), order, sieve, size)


def walk_by_chance(chance, deeds=20):
    shelf = Shelf(GOODS)
    for _ in range(deeds):
        do_deed(shelf, any_deed(chance, shelf, KEYS))
    return Walk(shelf, chance.choice(ORDERS), chance.choice(SIEVES), chance.randint(1, 4))


def step_by_chance(chance, walk):
    return chance.choice((walk.on, walk.on, walk.back, walk.first, walk.last))()


class WalkTest(CheckTest):
    def hold(self, page, keys, ahead, behind):
        self.assertEqual((type(page), len(page), type(page[0])), (tuple, 3, list))
        self.assertEqual((type(page[1]), type(page[2])), (int, int))
        self.assertEqual((keys_of(page[0]),) + page[1:], (keys, ahead, behind))

    def hold_stand(self, walk, fore, hinder):
        self.assertEqual(walk.stands()[3:], (fore, hinder))


class MadeTest(WalkTest):
    def test_how_it_stands_at_first(self):
        self.assertEqual(some_walk().stands(), (BY_PRICE, EVERY, 3, "start", "start"))
        self.assertEqual(Walk(Shelf(()), BY_KEY, NOTHING, 1000).stands(), (BY_KEY, NOTHING, 1000, "start", "start"))

    def test_orders_sieves_and_sizes_that_are_none(self):
        shelf = shelf_of_eight()
        for thing in [None, (), "up", 0] + other_things():
            self.hold_bad(BadOrder, Walk, shelf, thing, EVERY, 3)
            self.hold_bad(BadSieve, Walk, shelf, BY_PRICE, thing, 3)
            self.hold_bad(BadSize, Walk, shelf, BY_PRICE, EVERY, thing)
        for size in (-1, 1001, SIXTY):
            self.hold_bad(BadSize, Walk, shelf, BY_PRICE, EVERY, size)
        for size in (1, 1000):
            self.assertEqual(Walk(shelf, BY_PRICE, EVERY, size).stands()[2], size)

    def test_of_several_the_first_one_is_raised(self):
        self.hold_first(
            (partial(Walk, shelf_of_eight()),), ((BY_PRICE,), (EVERY,), (3,)),
            ((None, ((("cost", "up", "last"),), "up")), (None, ("is", "cost", 5)), (0, 1001, None)),
            (BadOrder, BadSieve, BadSize),
        )


class StepTest(WalkTest):
    def test_on_to_a_page_without_rows_and_further(self):
        walk = some_walk()
        self.hold(walk.on(), "a2 ink bag", 0, 5)
        self.hold_stand(walk, gap_at(7, "a2", "ahead"), gap_at(5, "bag", "behind"))
        self.hold(walk.on(), "box pen a10", 3, 2)
        self.hold_stand(walk, gap_at(5, "box", "ahead"), gap_at(-7, "a10", "behind"))
        self.hold(walk.on(), "cap rod", 6, 0)
        self.hold_stand(walk, gap_at(None, "cap", "ahead"), gap_at(None, "rod", "behind"))
        for _ in range(3):
            self.hold(walk.on(), "", 8, 0)
            self.hold_stand(walk, gap_at(None, "rod", "behind"), gap_at(None, "rod", "behind"))
        self.hold(walk.back(), "a10 cap rod", 5, 0)

    def test_back_at_once(self):
        walk = some_walk()
        for _ in range(3):
            self.hold(walk.back(), "", 0, 8)
            self.hold_stand(walk, "start", "start")
        self.hold(walk.on(), "a2 ink bag", 0, 5)

    def test_back_to_a_page_without_rows_and_further(self):
        walk = some_walk()
        walk.on()
        walk.on()
        self.hold(walk.back(), "a2 ink bag", 0, 5)
        self.hold_stand(walk, gap_at(7, "a2", "ahead"), gap_at(5, "bag", "behind"))
        for _ in range(2):
            self.hold(walk.back(), "", 0, 8)
            self.hold_stand(walk, gap_at(7, "a2", "ahead"), gap_at(7, "a2", "ahead"))
        self.hold(walk.on(), "a2 ink bag", 0, 5)

    def test_last_then_on_then_back(self):
        walk = some_walk()
        self.hold(walk.last(), "a10 cap rod", 5, 0)
        self.hold_stand(walk, gap_at(-7, "a10", "ahead"), gap_at(None, "rod", "behind"))
        self.hold(walk.on(), "", 8, 0)
        self.hold_stand(walk, gap_at(None, "rod", "behind"), gap_at(None, "rod", "behind"))
        self.hold(walk.back(), "a10 cap rod", 5, 0)
        self.hold(walk.back(), "bag box pen", 2, 3)
        self.hold_stand(walk, gap_at(5, "bag", "ahead"), gap_at(5, "pen", "behind"))

    def test_first_behind_any(self):
        for name in ("on", "back", "first", "last"):
            for more in ("on", "back"):
                walk = some_walk()
                getattr(walk, name)()
                getattr(walk, more)()
                self.hold(walk.first(), "a2 ink bag", 0, 5)
                self.hold_stand(walk, gap_at(7, "a2", "ahead"), gap_at(5, "bag", "behind"))

    def test_first_and_last_without_rows(self):
        walk = some_walk(3, NOTHING)
        for _ in range(2):
            self.hold(walk.first(), "", 0, 0)
            self.hold_stand(walk, "start", "start")
            self.hold(walk.on(), "", 0, 0)
            self.hold_stand(walk, "start", "start")
            self.hold(walk.last(), "", 0, 0)
            self.hold_stand(walk, "end", "end")
            self.hold(walk.back(), "", 0, 0)
            self.hold_stand(walk, "end", "end")
            self.hold(walk.on(), "", 0, 0)
            self.hold_stand(walk, "end", "end")

    def test_from_behind_all_there_is_nothing_on_whatever_is_put(self):
        walk = some_walk(3, ("key", ("zz", "zzz")))
        walk.last()
        walk.shelf.put("zz", (None, None))
        self.hold(walk.on(), "", 1, 0)
        self.hold_stand(walk, "end", "end")
        walk.shelf.put("zzz", (None, None))
        self.hold(walk.on(), "", 2, 0)
        self.hold(walk.back(), "zz zzz", 0, 0)
        self.hold_stand(walk, gap_at(None, "zz", "ahead"), gap_at(None, "zzz", "behind"))

    def test_from_ahead_of_all_there_is_nothing_back_whatever_is_put(self):
        walk = some_walk()
        walk.back()
        walk.shelf.put("top", (SIXTY, None))
        self.hold(walk.back(), "", 0, 9)
        self.hold_stand(walk, "start", "start")
        self.hold(walk.on(), "top a2 ink", 0, 6)

    def test_by_keys_alone(self):
        walk = some_walk(2, FIVE, ((), "down"))
        self.hold(walk.on(), "pen box", 0, 1)
        self.hold_stand(walk, (((), "pen"), "ahead"), (((), "box"), "behind"))

    def test_as_the_pages_of_the_shelf_from_where_it_stands(self):
        chance = random.Random(5)
        for _ in range(300):
            walk = walk_by_chance(chance)
            shelf = walk.shelf
            for _ in range(12):
                order, sieve, size, fore, hinder = walk.stands()
                many = count_of(shelf, sieve)
                name = chance.choice(("on", "back", "first", "last"))
                asked_from = {"on": hinder, "back": fore, "first": "start", "last": "end"}[name]
                ask = page_on if name in ("on", "first") else page_back
                if (asked_from, ask) in (("end", page_on), ("start", page_back)):
                    right = ([], many if asked_from == "end" else 0, 0 if asked_from == "end" else many)
                else:
                    gap = None if asked_from in ("start", "end") else asked_from
                    right = ask(shelf, order, sieve, size, gap)
                self.assertEqual(getattr(walk, name)(), right)
                gaps = gaps_of(GOODS, order, right) or (asked_from, asked_from)
                self.assertEqual(walk.stands(), (order, sieve, size) + gaps)
                for _ in range(chance.randint(0, 3)):
                    do_deed(shelf, any_deed(chance, shelf, KEYS))
                self.assertEqual(walk.stands(), (order, sieve, size) + gaps)


class DeedsBetweenTest(WalkTest):
    def test_rows_put_ahead_and_behind(self):
        walk = some_walk()
        walk.on()
        walk.shelf.put("aaa", (9, None))
        walk.shelf.put("bun", (5, None))
        self.hold(walk.on(), "box bun pen", 4, 3)
        self.hold(walk.back(), "a2 ink bag", 1, 6)
        self.hold(walk.back(), "aaa", 0, 9)

    def test_rows_changed_so_that_they_move(self):
        walk = some_walk()
        walk.on()
        walk.shelf.change("a2", (0, ""))
        walk.shelf.change("cap", (8, "bolt"))
        self.hold(walk.on(), "box pen a2", 3, 2)
        self.hold(walk.on(), "a10 rod", 6, 0)
        self.hold(walk.first(), "cap ink bag", 0, 5)

    def test_rows_taken(self):
        walk = some_walk()
        walk.on()
        walk.shelf.take("ink")
        walk.shelf.take("box")
        walk.shelf.take("pen")
        self.hold(walk.on(), "a10 cap rod", 2, 0)
        self.hold(walk.back(), "a2 bag", 0, 3)

    def test_the_row_at_whose_place_it_stands_is_taken_or_moves(self):
        for deed in (("take", "bag"), ("change", "bag", (9, None))):
            walk = some_walk()
            walk.on()
            do_deed(walk.shelf, deed)
            self.hold_stand(walk, gap_at(7, "a2", "ahead"), gap_at(5, "bag", "behind"))
            self.assertEqual(keys_of(walk.on()[0]), "box pen a10")
        walk = some_walk()
        walk.on()
        walk.shelf.change("bag", (1, None))
        self.hold(walk.on(), "box pen bag", 2, 3)

    def test_behind_a_page_without_rows_new_ones_are_told(self):
        walk = some_walk(1000)
        walk.on()
        walk.on()
        walk.shelf.put("zoo", (None, None))
        walk.shelf.put("bat", (None, None))
        self.hold(walk.on(), "zoo", 9, 0)

    def test_two_walks_of_one_shelf(self):
        one = some_walk()
        other = Walk(one.shelf, ((), "down"), FIVE, 2)
        self.hold(one.on(), "a2 ink bag", 0, 5)
        self.hold(other.on(), "pen box", 0, 1)
        self.hold(one.on(), "box pen a10", 3, 2)
        other.turn()
        other.size_by(1)
        one.shelf.take("box")
        self.hold(other.on(), "", 2, 0)
        self.hold(one.back(), "a2 ink bag", 0, 4)
        self.assertEqual(one.stands()[:3], (BY_PRICE, EVERY, 3))

    def test_gaps_are_kept_when_the_shelf_is_emptied(self):
        walk = some_walk()
        walk.on()
        for key in keys_of(walk.shelf.all_at()).split():
            walk.shelf.take(key)
        self.hold(walk.on(), "", 0, 0)
        self.hold_stand(walk, gap_at(5, "bag", "behind"), gap_at(5, "bag", "behind"))


class AgainTest(WalkTest):
    def again(self, walk, keys):
        stand = walk.stands()
        told = walk.again()
        self.assertIs(type(told), list)
        self.assertEqual(keys_of(told), keys)
        self.assertEqual(walk.stands(), stand)

    def test_behind_each_page(self):
        walk = some_walk()
        self.again(walk, "")
        walk.on()
        self.again(walk, "a2 ink bag")
        walk.on()
        self.again(walk, "box pen a10")
        walk.back()
        self.again(walk, "a2 ink bag")
        walk.last()
        self.again(walk, "a10 cap rod")
        walk.first()
        self.again(walk, "a2 ink bag")

    def test_behind_pages_without_rows(self):
        walk = some_walk()
        walk.last()
        walk.on()
        self.again(walk, "")
        walk.first()
        walk.back()
        self.again(walk, "")

    def test_ahead_of_all_and_behind_all_nothing_stands_between(self):
        walk = some_walk(3, ("key", ("zz",)))
        for go in (walk.back, walk.last):
            go()
            self.again(walk, "")
            walk.shelf.put("zz", (None, None))
            self.again(walk, "")
            walk.shelf.take("zz")

    def test_with_deeds_in_between(self):
        walk = some_walk()
        walk.on()
        walk.on()
        walk.shelf.put("bun", (4, None))
        walk.shelf.put("boy", (5, None))
        walk.shelf.take("box")
        walk.shelf.change("rod", (0, None))
        walk.shelf.change("pen", (-7, None))
        self.again(walk, "boy bun rod a10")
        walk.shelf.take("a10")
        self.again(walk, "boy bun rod")
        walk.shelf.put("box", (5, "new"))
        self.again(walk, "box boy bun rod")
        self.assertEqual(walk.again()[0], ("box", (5, "new")))

    def test_as_the_stretch_between_its_gaps(self):
        chance = random.Random(6)
        for _ in range(300):
            walk = walk_by_chance(chance)
            for _ in range(8):
                step_by_chance(chance, walk)
                for _ in range(chance.randint(0, 3)):
                    do_deed(walk.shelf, any_deed(chance, walk.shelf, KEYS))
                order, sieve, size, fore, hinder = walk.stands()
                if fore in ("start", "end"):
                    self.assertEqual(walk.again(), [])
                else:
                    self.assertEqual(walk.again(), stretch(walk.shelf, order, sieve, fore, hinder))
                self.assertEqual(walk.stands(), (order, sieve, size, fore, hinder))


class TurnTest(WalkTest):
    def test_ahead_of_all_and_behind_all(self):
        walk = some_walk()
        self.assertIsNone(walk.turn())
        self.assertEqual(walk.stands(), (turned(BY_PRICE), EVERY, 3, "end", "end"))
        self.hold(walk.on(), "", 8, 0)
        self.hold(walk.back(), "bag ink a2", 5, 0)
        walk = some_walk(3, NOTHING)
        walk.last()
        walk.turn()
        self.assertEqual(walk.stands(), (turned(BY_PRICE), NOTHING, 3, "start", "start"))

    def test_in_the_midst(self):
        walk = some_walk()
        walk.on()
        walk.on()
        walk.turn()
        self.assertEqual(walk.stands(), (
            ((("price", "up", "first"),), "down"), EVERY, 3,
            (((-7,), "a10"), "ahead"), (((5,), "box"), "behind"),
        ))
        self.assertEqual(keys_of(walk.again()), "a10 pen box")
        self.hold(walk.on(), "bag ink a2", 5, 0)
        self.hold(walk.back(), "a10 pen box", 2, 3)
        self.hold(walk.back(), "rod cap", 0, 6)

    def test_behind_a_page_without_rows(self):
        walk = some_walk()
        walk.last()
        walk.on()
        walk.turn()
        self.hold_stand(walk, gap_at(None, "rod", "ahead"), gap_at(None, "rod", "ahead"))
        self.hold(walk.on(), "rod cap a10", 0, 5)

    def test_twice_all_is_as_it_was(self):
        chance = random.Random(7)
        for _ in range(200):
            walk = walk_by_chance(chance)
            for _ in range(6):
                stand = walk.stands()
                rows = walk.again()
                walk.turn()
                order, sieve, size, fore, hinder = stand
                swapped = {"start": "end", "end": "start"}
                turn = lambda gap: swapped[gap] if gap in swapped else turned_gap(gap)
                self.assertEqual(walk.stands(), (turned(order), sieve, size, turn(hinder), turn(fore)))
                self.assertEqual(walk.again(), rows[::-1])
                walk.turn()
                self.assertEqual(walk.stands(), stand)
                self.assertEqual(walk.again(), rows)
                step_by_chance(chance, walk)
                do_deed(walk.shelf, any_deed(chance, walk.shelf, KEYS))

    def test_on_of_the_one_turned_over_is_back_of_the_other(self):
        chance = random.Random(8)
        for _ in range(200):
            walk = walk_by_chance(chance)
            other = Walk(walk.shelf, *walk.stands()[:3])
            other.turn()
            # A walk is made ahead of all: turned over it stands behind all, and its on is the other's back.
            for _ in range(10):
                name = chance.choice(("on", "back", "first", "last"))
                mirror = {"on": "back", "back": "on", "first": "last", "last": "first"}[name]
                rows, ahead, behind = getattr(walk, name)()
                self.assertEqual(getattr(other, mirror)(), (rows[::-1], behind, ahead))
                self.assertEqual(other.again(), walk.again()[::-1])
                do_deed(walk.shelf, any_deed(chance, walk.shelf, KEYS))
                if chance.random() < 0.2:
                    walk.turn()
                    other.turn()


class ExchangeTest(WalkTest):
    def test_in_the_midst(self):
        walk = some_walk()
        walk.on()
        gaps = (gap_at(7, "a2", "ahead"), gap_at(5, "bag", "behind"))
        self.assertIsNone(walk.sieve_by(("is", "price", None)))
        self.assertEqual(walk.stands(), (BY_PRICE, ("is", "price", None), 3) + gaps)
        self.assertIsNone(walk.size_by(1))
        self.assertEqual(walk.stands(), (BY_PRICE, ("is", "price", None), 1) + gaps)
        self.assertEqual(walk.again(), [])
        self.hold(walk.on(), "cap", 0, 1)
        walk.sieve_by(FIVE)
        walk.size_by(1000)
        self.hold(walk.back(), "bag box pen", 0, 0)

    def test_ahead_of_all_and_behind_all(self):
        walk = some_walk(3, NOTHING)
        walk.last()
        walk.sieve_by(EVERY)
        walk.size_by(2)
        self.assertEqual(walk.stands(), (BY_PRICE, EVERY, 2, "end", "end"))
        self.hold(walk.back(), "cap rod", 6, 0)

    def test_what_is_refused_changes_nothing(self):
        walk = some_walk()
        for go in (lambda: None, walk.on, walk.on, walk.turn, walk.last, walk.on):
            go()
            stand = walk.stands()
            for sieve in [None, (), "every", ("is", "cost", 5), ("not", ("every", 1))] + other_things():
                self.hold_bad(BadSieve, walk.sieve_by, sieve)
            for size in [0, -1, 1001, SIXTY, None, "", "3", (), (3,)] + other_things():
                self.hold_bad(BadSize, walk.size_by, size)
            self.assertEqual(walk.stands(), stand)
        for size in (1, 1000):
            walk.size_by(size)
            self.assertEqual(walk.stands()[2], size)


class OnceTest(unittest.TestCase):
    """A walk by on alone, with any deeds in between, to a page without rows."""

    def told(self, chance, walk, most):
        """Each page with the moment of its asking; deeds in between as long as there are not too many."""
        pages = []
        while not pages or pages[-1][1]:
            pages.append((walk.shelf.now(), walk.on()[0]))
            for _ in range(chance.randint(0, most)):
                if walk.shelf.now() < 200:
                    do_deed(walk.shelf, any_deed(chance, walk.shelf, KEYS))
        return pages

    def standing_of(self, shelf, row, moment):
        for begin, end, worths in shelf.standings_of(row[0]):
            if begin <= moment and (end is None or moment <= end):
                self.assertEqual(worths, row[1])
                return (row[0], begin)
        self.fail("the row did not stand")

    def hold_once(self, walk, pages):
        shelf = walk.shelf
        told = [self.standing_of(shelf, row, moment) for moment, rows in pages for row in rows]
        self.assertEqual(len(set(told)), len(told))
        first = pages[0][0]
        last = pages[-1][0]
        for key in KEYS:
            for begin, end, worths in shelf.standings_of(key):
                if begin <= first and (end is None or last <= end) and passes(GOODS, walk.sieve, (key, worths)):
                    self.assertEqual(told.count((key, begin)), 1)

    def hold_nothing_left_out(self, walk, pages):
        order = walk.order
        ahead = None
        for moment, rows in pages:
            answer = plain(walk.shelf, order, walk.sieve, moment)
            behind = [row for row in answer if ahead is None or not is_ahead(order, place_of(GOODS, order, row), ahead)]
            self.assertEqual(rows, behind[:walk.size])
            if rows:
                ahead = (place_of(GOODS, order, rows[-1]), "behind")

    def test_rows_are_told_once_and_none_is_left_out(self):
        chance = random.Random(9)
        lengths = []
        for _ in range(400):
            walk = walk_by_chance(chance, chance.randint(0, 40))
            pages = self.told(chance, walk, chance.choice((0, 1, 4)))
            self.hold_once(walk, pages)
            self.hold_nothing_left_out(walk, pages)
            lengths.append(len(pages))
        self.assertGreater(max(lengths), 8)


class EndToEndTest(unittest.TestCase):
    def test_pages_laid_end_to_end_are_the_plain_answer(self):
        shelf = shelf_of_eight()
        for order, sieve, sizes in itertools.product(ORDERS, SIEVES, ((1,), (3,), (1000,), (2, 1, 5))):
            answer = plain(shelf, order, sieve)
            for name in ("on", "back"):
                walk = Walk(shelf, order, sieve, 2)
                pages = [walk.first() if name == "on" else walk.last()]
                for size in itertools.cycle(sizes):
                    if not pages[-1][0]:
                        break
                    walk.size_by(size)
                    pages.append(getattr(walk, name)())
                pages = pages if name == "on" else pages[::-1]
                self.assertEqual([row for page in pages for row in page[0]], answer)

    def test_back_behind_takings_alone(self):
        for size, steps in itertools.product((1, 2, 3), (1, 2)):
            for taken in itertools.combinations(("a2", "ink", "bag", "box", "pen", "a10"), 3):
                walk = some_walk(size)
                for _ in range(steps):
                    rows, ahead, behind = walk.on()
                told_ahead = [row for row in plain(walk.shelf, BY_PRICE, EVERY)[:ahead] if row[0] not in taken]
                kept = [row for row in rows if row[0] not in taken]
                for key in taken:
                    walk.shelf.take(key)
                room = size - len(kept)
                gap = walk.stands()[4]
                back = page_back(walk.shelf, BY_PRICE, EVERY, size, gap)
                self.assertEqual(back[0], told_ahead[max(len(told_ahead) - room, 0):] + kept)


class UnchangedTest(WalkTest):
    def test_lists_that_were_told_are_the_askers_own(self):
        walk = some_walk()
        for name in ("on", "first", "last", "back"):
            page = getattr(walk, name)()
            right = list(page[0])
            stand = walk.stands()
            page[0].reverse()
            page[0].append("more")
            self.assertEqual(walk.again(), right)
            self.assertEqual(walk.stands(), stand)
            again = walk.again()
            again.clear()
            self.assertEqual(walk.again(), right)

    def test_a_walk_changes_nothing_of_the_shelf(self):
        walk = some_walk()
        for go in (walk.on, walk.on, walk.turn, walk.on, walk.again, walk.last, walk.stands, walk.first, walk.back):
            go()
        self.assertEqual(walk.shelf.history(), shelf_of_eight().history())

    def test_what_only_tells_tells_the_same_again(self):
        walk = some_walk()
        walk.on()
        self.assertEqual(walk.stands(), walk.stands())
        self.assertEqual(walk.again(), walk.again())


if __name__ == "__main__":
    unittest.main()
