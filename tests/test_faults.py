import itertools
import random
import unittest

from helper import (
    BY_KEY, BY_PRICE, EVERY, GOODS, NOTHING, Agreeing, CheckTest, Failing, Tripping, all_orders, any_deed, no_lists,
    other_things, shelf_of_eight, shown,
)
from pageturns.answers import plain
from pageturns.deeds import do_deed
from pageturns.errors import BadColumns, BadDeed, BadOrder, BadSieve
from pageturns.faults import walk_fault
from pageturns.orders import place_of, places_compared
from pageturns.shelves import Shelf
from pageturns.sieves import passes
from pageturns.walks import Walk

ORDERS = all_orders(()) + all_orders(("price",)) + all_orders(("maker", "price"))[::7]
SIEVES = (EVERY, EVERY, NOTHING, ("not", ("is", "price", 1)), ("begins", "maker", "a"))
KEYS = tuple("abcdefgh")
# By price down, None last: a2 ink bag box pen a10 cap rod.
DEEDS = shelf_of_eight().history()
ROWS = dict(shelf_of_eight().all_at())


def page(keys, **others):
    """A page event of these keys' rows, with other worths where they are told."""
    return ("page", [(key, others.get(key, ROWS[key])) for key in keys.split()])


PAGES = [page("a2 ink bag"), page("box pen a10"), page("cap rod"), page("")]


class FaultTest(CheckTest):
    def hold(self, events, right, order=BY_PRICE, sieve=EVERY, columns=GOODS):
        with self.subTest(events=shown(events[8:])):
            for _ in range(2):
                told = walk_fault(columns, order, sieve, events)
                self.assertEqual(told, right)
                if told is not None:
                    self.assertEqual((type(told), type(told[1])), (tuple, int))

    def hold_pages(self, events, right, sieve=EVERY):
        """Events behind the eight deeds; the place in what is right counts them alone."""
        if right is not None:
            right = (right[0], right[1] + 8) + right[2:]
        self.hold(DEEDS + events, right, BY_PRICE, sieve)
        # What stands behind the first one amiss is not looked at.
        if right is not None:
            self.hold(DEEDS + events[:right[1] - 7] + [Failing(), Tripping(("page", []))], right, BY_PRICE, sieve)


class RefusalTest(CheckTest):
    def test_each(self):
        for thing in [None, 0, "", ("price", "number"), (("Price", "number"),)] + other_things():
            self.hold_bad(BadColumns, walk_fault, thing, BY_KEY, EVERY, [])
        for thing in [None, 0, "", (), ((("cost", "up", "last"),), "up")] + other_things():
            self.hold_bad(BadOrder, walk_fault, GOODS, thing, EVERY, [])
            self.hold_bad(BadSieve, walk_fault, GOODS, BY_PRICE, thing, [])
        for thing in no_lists() + [tuple(DEEDS)]:
            self.hold_bad(BadDeed, walk_fault, GOODS, BY_PRICE, EVERY, thing)

    def test_of_several_the_first_one_is_raised(self):
        self.hold_first(
            (walk_fault,), ((GOODS,), (BY_PRICE,), (EVERY,), ([], DEEDS, [5])),
            ((None, (("Price", "number"),)), (None, ((), "Up")), (None, ("not", ())), (None, ())),
            (BadColumns, BadOrder, BadSieve, BadDeed),
        )


class NoFaultTest(FaultTest):
    def test_no_events_and_deeds_alone(self):
        self.hold([], None)
        self.hold(DEEDS, None)
        self.hold([], None, BY_KEY, EVERY, ())

    def test_pages_of_whatever_sizes(self):
        self.hold_pages(PAGES, None)
        self.hold_pages(PAGES[:2], None)
        self.hold_pages([page("a2"), page("ink bag box pen a10 cap"), page("rod"), page(""), page("")], None)
        self.hold_pages([page("a2 ink bag box pen a10 cap rod")], None)

    def test_a_sieve(self):
        five = ("is", "price", 5)
        self.hold_pages([page("bag"), page("box pen"), page("")], None, five)
        self.hold_pages([page("")], None, NOTHING)

    def test_no_rows_at_all(self):
        self.hold([("page", []), ("page", [])], None)
        self.hold([("page", []), ("put", "a", ()), ("page", [("a", ())]), ("page", [])], None, BY_KEY, EVERY, ())

    def test_deeds_in_between(self):
        self.hold_pages([
            PAGES[0], ("take", "ink"), ("put", "zz", (9, None)), ("change", "bag", (0, None)), ("take", "rod"),
            page("box pen", box=ROWS["box"]), page("bag a10 cap", bag=(0, None)), page(""),
        ], None)

    def test_pages_without_rows_in_the_midst(self):
        self.hold_pages(PAGES + [("put", "zoo", (None, "z")), ("page", [("zoo", (None, "z"))]), page("")], None)


class EventTest(FaultTest):
    def test_what_is_no_event(self):
        row = ("pen", (5, "acme"))
        for event in [
            None, 5, "", "page", (), ("page",), ("page", [], []), ["page", []], ("Page", []), ("page", ()),
            ("page", (row,)), ("page", row), ("page", None), ("page", {}), ("page", "a"), ("pages", []),
            ("page", [None]), ("page", [row, None]), ("page", [list(row)]), ("page", [("pen", [5, "acme"])]),
            ("page", [("pen", (5,))]), ("page", [("pen", (5, "acme", None))]), ("page", [("pen", ("5", "acme"))]),
            ("page", [("pen", (True, "acme"))]), ("page", [("Pen", (5, "acme"))]), ("page", [("pen",)]),
            ("page", [row + (1,)]), ("page", [("pen", (5.0, "acme"))]), ("page", [("pen", None)]),
            ("asked", 1, ()), ("told", 1, ([], 0, 0)), (None, []), (Agreeing(), []), (("page",), []), (0, []),
        ] + other_things():
            self.hold_pages([event], ("event", 0))
            self.hold_pages([PAGES[0], event, PAGES[1]], ("event", 1))
        for thing in other_things():
            if not isinstance(thing, list) or thing:
                self.hold_pages([("page", thing)], ("event", 0))
            self.hold_pages([(thing, [])], ("event", 0))
            self.hold_pages([("page", [thing])], ("event", 0))
            self.hold_pages([("page", [("a2", ROWS["a2"]), thing])], ("event", 0))

    def test_deeds_that_are_none_or_refused(self):
        for deed in (
            ("put",), ("put", "new"), ("put", "new", (1, None), 5), ("change", "pen"), ("take",), ("take", "pen", 1),
            ("put", "pen", (1, None)), ("change", "new", (1, None)), ("take", "new"), ("put", "New", (1, None)),
            ("put", "new", (1,)), ("change", "pen", [1, None]), ("take", "Pen"), ("take", Failing()),
        ):
            self.hold_pages([deed], ("event", 0))
            self.hold_pages([PAGES[0], ("put", "zz", (None, None)), deed, page("rod")], ("event", 2))
        self.hold([("take", "pen")], ("event", 0))

    def test_the_whole_page_is_looked_at_ahead_of_its_rows(self):
        for first, right in (
            (("pen", (1, None)), ("strange", 0, "pen")), (("zz", (1, None)), ("strange", 0, "zz")),
            (("rod", ROWS["rod"]), ("missed", 0, "a2")),
        ):
            self.hold_pages([("page", [first])], right)
            self.hold_pages([("page", [first, ("pen", (5,))])], ("event", 0))


class RowTest(FaultTest):
    def test_strange(self):
        # At the first page and at a later one, in the first row and in the last.
        self.hold_pages([page("a2 ink bag", a2=(8, ""))], ("strange", 0, "a2"))
        self.hold_pages([page("a2 ink bag", bag=(5, ""))], ("strange", 0, "bag"))
        self.hold_pages([PAGES[0], page("box pen a10", box=(5, "bolt"))], ("strange", 1, "box"))
        self.hold_pages([PAGES[0], page("box pen a10", a10=(None, None))], ("strange", 1, "a10"))
        self.hold_pages([("page", [("never", (8, None))])], ("strange", 0, "never"))

    def test_rows_that_stood_once(self):
        self.hold_pages([("take", "a2"), PAGES[0]], ("strange", 1, "a2"))
        self.hold_pages([PAGES[0], ("take", "a10"), PAGES[1]], ("strange", 2, "a10"))
        self.hold_pages([("change", "a2", (7, None)), PAGES[0]], ("strange", 1, "a2"))
        self.hold_pages([PAGES[0], ("change", "pen", (5, None)), PAGES[1]], ("strange", 2, "pen"))
        self.hold_pages([("take", "a2"), ("put", "a2", (7, "")), PAGES[0]], None)
        self.hold_pages([("change", "a2", (7, "")), PAGES[0]], None)

    def test_rows_that_do_not_pass(self):
        five = ("is", "price", 5)
        self.hold_pages([page("a2")], ("strange", 0, "a2"), five)
        self.hold_pages([page("bag box"), page("pen a10")], ("strange", 1, "a10"), five)
        self.hold_pages([page("bag box"), ("change", "pen", (6, None)), page("pen", pen=(6, None))],
                        ("strange", 2, "pen"), five)

    def test_order(self):
        self.hold_pages([page("a2 ink ink")], ("order", 0, "ink"))
        self.hold_pages([page("a2 ink a2")], ("order", 0, "a2"))
        self.hold_pages([PAGES[0], page("bag box")], ("order", 1, "bag"))
        self.hold_pages([PAGES[0], page("box pen ink")], ("order", 1, "ink"))
        self.hold_pages([PAGES[0], PAGES[1], page("cap rod cap")], ("order", 2, "cap"))
        self.hold_pages([PAGES[0], ("change", "box", (9, None)), page("box", box=(9, None))], ("order", 2, "box"))
        self.hold_pages(PAGES + [page("rod")], ("order", 4, "rod"))

    def test_missed(self):
        self.hold_pages([page("ink bag")], ("missed", 0, "a2"))
        self.hold_pages([page("rod")], ("missed", 0, "a2"))
        self.hold_pages([page("a2 bag")], ("missed", 0, "ink"))
        self.hold_pages([page("a2 rod")], ("missed", 0, "ink"))
        self.hold_pages([PAGES[0], page("pen a10")], ("missed", 1, "box"))
        self.hold_pages([PAGES[0], page("box pen cap")], ("missed", 1, "a10"))
        self.hold_pages([PAGES[0], ("put", "bb", (5, None)), PAGES[1]], ("missed", 2, "bb"))
        self.hold_pages([PAGES[0], ("put", "bag1", (5, None)), ("take", "bag1"), PAGES[1]], None)

    def test_missed_of_pages_without_rows(self):
        self.hold_pages([page("")], ("missed", 0, "a2"))
        self.hold_pages([PAGES[0], page("")], ("missed", 1, "box"))
        self.hold_pages([PAGES[0], PAGES[1], page("cap"), page("")], ("missed", 3, "rod"))
        self.hold_pages(PAGES + [("put", "zoo", (None, None)), page("")], ("missed", 5, "zoo"))
        self.hold_pages([page("bag box"), page("")], ("missed", 1, "pen"), ("is", "price", 5))
        self.hold_pages([page("bag"), ("take", "box"), page("")], ("missed", 2, "pen"), ("is", "price", 5))

    def test_each_two_of_one_row_at_once(self):
        # Strange and out of order; strange, and one left out ahead of it.
        self.hold_pages([PAGES[0], page("ink", ink=(9, None))], ("strange", 1, "ink"))
        self.hold_pages([PAGES[0], page("pen", pen=(4, "acme"))], ("strange", 1, "pen"))
        # A row that is out of order has none ahead of it that was left out.
        self.hold_pages([page("a2 ink"), ("put", "zz", (7, None)), page("a2")], ("order", 2, "a2"))
        # Of two rows the first one, whatever is amiss with it.
        self.hold_pages([page("ink a2", a2=(0, None))], ("missed", 0, "a2"))
        self.hold_pages([page("a2 a2 pen", pen=(0, None))], ("order", 0, "a2"))
        self.hold_pages([page("a2 ink pen ink")], ("missed", 0, "bag"))

    def test_of_two_events_the_first_one_is_told(self):
        bad = [
            (None, ("event", 1)), (page("box", box=(0, None)), ("strange", 1, "box")),
            (page("ink"), ("order", 1, "ink")), (page("pen"), ("missed", 1, "box")), (page(""), ("missed", 1, "box")),
        ]
        for (event, right), (other, _) in itertools.product(bad, bad):
            self.hold_pages([PAGES[0], event, other], right)

    def test_ties_and_ends(self):
        order = ((("price", "up", "first"),), "down")
        rows = [("page", [(key, ROWS[key]) for key in "rod cap a10 pen box bag ink a2".split()]), ("page", [])]
        self.hold(DEEDS + rows, None, order)
        self.hold(DEEDS + [page("rod a10")], ("missed", 8, "cap"), order)
        self.hold(DEEDS + [page("cap rod")], ("missed", 8, "rod"), order)
        self.hold(DEEDS + [page("rod cap a10 box pen")], ("missed", 8, "pen"), order)


def fault_by_words(order, sieve, events):
    """What point 25 says, row by row, beside every row of the answer."""
    shelf = Shelf(GOODS)
    last = None
    for place, event in enumerate(events):
        if event[0] != "page":
            do_deed(shelf, event)
            continue
        answer = plain(shelf, order, sieve)
        behind = [row for row in answer if is_behind(order, row, last)]
        if not event[1] and behind:
            return ("missed", place, behind[0][0])
        for row in event[1]:
            if row not in shelf.all_at() or not passes(GOODS, sieve, row):
                return ("strange", place, row[0])
            if not is_behind(order, row, last):
                return ("order", place, row[0])
            between = [other for other in answer if is_behind(order, other, last) and is_behind(order, row, other)]
            if between:
                return ("missed", place, between[0][0])
            last = row
    return None


def is_behind(order, row, other):
    if other is None:
        return True
    return places_compared(order, place_of(GOODS, order, row), place_of(GOODS, order, other)) > 0


class ByChanceTest(FaultTest):
    def walked(self, chance, most_deeds):
        """Events of a walk to a page without rows, with deeds in between."""
        shelf = Shelf(GOODS)
        for _ in range(chance.randint(0, 25)):
            do_deed(shelf, any_deed(chance, shelf, KEYS))
        events = shelf.history()
        walk = Walk(shelf, chance.choice(ORDERS), chance.choice(SIEVES), 1)
        rows = None
        while rows != []:
            walk.size_by(chance.randint(1, 3))
            rows = walk.on()[0]
            events.append(("page", list(rows)))
            for _ in range(chance.randint(0, most_deeds) if shelf.now() < 80 else 0):
                events.append(any_deed(chance, shelf, KEYS))
                do_deed(shelf, events[-1])
        return walk.order, walk.sieve, events

    def spoiled(self, chance, events):
        """The events with one row left out, told twice, or told with other worths; and which was done where."""
        places = [place for place, event in enumerate(events) if event[0] == "page" and event[1]]
        if not places:
            return None
        place = chance.choice(places)
        rows = list(events[place][1])
        at = chance.randrange(len(rows))
        change = chance.choice(("out", "twice", "worths"))
        if change == "out":
            rows.pop(at)
        elif change == "twice":
            rows.insert(at, rows[at])
        else:
            rows[at] = (rows[at][0], (9, "other"))
        return events[:place] + [("page", rows)] + events[place + 1:], change, place, at, events[place][1][at][0]

    def test_a_walk_of_the_package_has_no_fault(self):
        chance = random.Random(13)
        for _ in range(400):
            order, sieve, events = self.walked(chance, chance.choice((0, 1, 4)))
            self.hold(events, None, order, sieve)

    def test_a_walk_that_is_spoiled_has_one(self):
        chance = random.Random(14)
        seen = {}
        for _ in range(500):
            order, sieve, events = self.walked(chance, 0)
            spoiled = self.spoiled(chance, events)
            if spoiled is None:
                continue
            told, change, place, at, key = spoiled
            fault = walk_fault(GOODS, order, sieve, told)
            seen[change] = seen.get(change, 0) + 1
            if change == "worths":
                self.assertEqual(fault, ("strange", place, key))
            elif change == "twice":
                self.assertEqual(fault, ("order", place, key))
            else:
                # It is missed at the next row that is told, or at the next page.
                self.assertEqual((fault[0], fault[2]), ("missed", key))
                self.assertIn(fault[1], (place, place + 1))
        self.assertGreater(min(seen.values()), 50)
        self.assertEqual(len(seen), 3)

    def test_with_deeds_in_between_and_spoiled_as_the_document_says(self):
        chance = random.Random(15)
        words = {}
        for _ in range(800):
            order, sieve, events = self.walked(chance, 3)
            for _ in range(chance.randint(0, 2)):
                spoiled = self.spoiled(chance, events)
                events = spoiled[0] if spoiled else events
            if chance.random() < 0.3:
                pages = [place for place, event in enumerate(events) if event[0] == "page"]
                one, other = chance.choice(pages), chance.choice(pages)
                events[one], events[other] = events[other], events[one]
            right = fault_by_words(order, sieve, events)
            before = repr(events)
            self.hold(events, right, order, sieve)
            self.assertEqual(repr(events), before)
            words[right and right[0]] = words.get(right and right[0], 0) + 1
        self.assertGreater(min(words[word] for word in (None, "strange", "order", "missed")), 40)


class OnceTest(FaultTest):
    """Point 26: where the events end with a page without rows and there is no fault."""

    def hold_once(self, order, sieve, events):
        shelf = Shelf(GOODS)
        told = []
        moments = []
        for event in events:
            if event[0] != "page":
                do_deed(shelf, event)
                continue
            moments.append(shelf.now())
            told += [(key, shelf.standings_of(key)[-1][0]) for key, worths in event[1]]
        self.assertEqual(len(set(told)), len(told))
        for key in KEYS:
            for begin, end, worths in shelf.standings_of(key):
                if begin <= moments[0] and (end is None or moments[-1] <= end) and passes(GOODS, sieve, (key, worths)):
                    self.assertEqual(told.count((key, begin)), 1)

    def test_rows_by_chance_without_a_fault_are_told_once(self):
        # Pages are drawn from few rows, so that some have no fault though no walk of the package told them.
        chance = random.Random(16)
        right = 0
        for _ in range(4000):
            order, sieve = chance.choice(ORDERS), chance.choice((EVERY, ("not", ("is", "price", 1))))
            shelf = Shelf(GOODS)
            events = []
            for _ in range(chance.randint(1, 8)):
                if chance.random() < 0.5:
                    events.append(any_deed(chance, shelf, KEYS[:3]))
                    do_deed(shelf, events[-1])
                else:
                    answer = plain(shelf, order, sieve)
                    begin = chance.randint(0, len(answer))
                    events.append(("page", answer[begin:begin + chance.randint(0, 2)]))
            events.append(("page", []))
            if walk_fault(GOODS, order, sieve, events) is None:
                self.hold_once(order, sieve, events)
                right += 1
        self.assertGreater(right, 200)


if __name__ == "__main__":
    unittest.main()
