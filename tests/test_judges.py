import itertools
import random
import unittest

from helper import (
    BY_KEY, BY_PRICE, EVERY, GOODS, NOTHING, SIXTY, Agreeing, CheckTest, Failing, Tripping, all_orders, any_deed,
    no_lists, other_things, shown,
)
from pageturns.deeds import do_deed
from pageturns.errors import BadColumns, BadDeed
from pageturns.judges import judged
from pageturns.orders import place_of
from pageturns.pages import page_back, page_on
from pageturns.shelves import Shelf

ORDERS = all_orders(()) + all_orders(("price",)) + all_orders(("maker", "price"))[::7]
SIEVES = (EVERY, EVERY, NOTHING, ("not", ("is", "price", 1)), ("begins", "maker", "a"))
KEYS = tuple("abcde")

QUESTION = ("on", BY_PRICE, EVERY, 2, None)
# The moments behind these are 1, 2, 3, 4 and 5; no two of the pages are alike.
DEEDS = [
    ("put", "pen", (5, "acme")), ("put", "ink", (7, None)), ("change", "pen", (6, "acme")),
    ("put", "cap", (9, None)), ("put", "bag", (8, None)),
]
PAGES = [
    ([], 0, 0), ([("pen", (5, "acme"))], 0, 0), ([("ink", (7, None)), ("pen", (5, "acme"))], 0, 0),
    ([("ink", (7, None)), ("pen", (6, "acme"))], 0, 0), ([("cap", (9, None)), ("ink", (7, None))], 0, 1),
    ([("cap", (9, None)), ("bag", (8, None))], 0, 2),
]
ASKED = ("asked", 1, QUESTION)


def told_between(page, asked_at, told_at, question=QUESTION):
    """Events in which a question is asked and answered behind so many deeds."""
    asked = [("asked", 1, question)]
    return DEEDS[:asked_at] + asked + DEEDS[asked_at:told_at] + [("told", 1, page)] + DEEDS[told_at:]


class JudgeTest(CheckTest):
    def hold(self, events, right, columns=GOODS):
        with self.subTest(events=shown(events)):
            for _ in range(2):
                told = judged(columns, events)
                self.assertEqual(told, right)
                if told is not None:
                    self.assertEqual((type(told), type(told[0]), type(told[1])), (tuple, int, str))

    def hold_last(self, events, word):
        """The last event is the first one amiss."""
        self.hold(events[:-1], None)
        self.hold(events, (len(events) - 1, word) if word is not None else None)
        # What stands behind it is not looked at.
        if word is not None:
            self.hold(events + [Failing(), Tripping(("put",)), 5], (len(events) - 1, word))


class RefusalTest(CheckTest):
    def test_columns_that_are_none(self):
        for thing in [None, 0, "", ("price", "number"), (("Price", "number"),), GOODS + GOODS] + other_things():
            self.hold_bad(BadColumns, judged, thing, [])
            self.hold_bad(BadColumns, judged, thing, None)

    def test_events_that_are_no_list(self):
        for thing in no_lists() + [tuple(DEEDS)]:
            self.hold_bad(BadDeed, judged, GOODS, thing)
            self.hold_bad(BadColumns, judged, [], thing)


class RightTest(JudgeTest):
    def test_no_events(self):
        self.hold([], None)
        self.hold([], None, ())

    def test_deeds_and_questions_without_answers(self):
        self.hold(DEEDS, None)
        self.hold([("asked", number, QUESTION) for number in (0, -1, 5, SIXTY, -SIXTY)], None)
        self.hold(DEEDS[:2] + [ASKED] + DEEDS[2:] + [("asked", 2, QUESTION)], None)

    def test_pages_as_of_each_moment(self):
        for asked_at, told_at in itertools.combinations_with_replacement(range(6), 2):
            for moment in range(6):
                events = told_between(PAGES[moment], asked_at, told_at)
                right = None if asked_at <= moment <= told_at else (told_at + 1, "page")
                self.hold(events, right)

    def test_pages_as_of_the_asking_and_the_telling_and_between(self):
        for moment in (1, 2, 3, 4):
            self.hold(told_between(PAGES[moment], 1, 4), None)
        self.hold(told_between(PAGES[0], 1, 4), (5, "page"))
        self.hold(told_between(PAGES[5], 1, 4), (5, "page"))

    def test_answers_come_in_any_order(self):
        back = ("back", BY_KEY, ("is", "maker", None), 1, (((), "ink"), "ahead"))
        events = DEEDS[:2] + [("asked", 1, QUESTION), ("asked", 2, back)] + DEEDS[2:] + [
            ("told", 2, ([("cap", (9, None))], 0, 1)), ("told", 1, PAGES[3]),
            ("asked", 3, QUESTION), ("told", 3, PAGES[5]),
        ]
        self.hold(events, None)

    def test_questions_of_all_sorts(self):
        gap = (((6,), "a"), "behind")
        for question, page in (
            (("back", BY_PRICE, EVERY, 2, None), ([("ink", (7, None)), ("pen", (6, "acme"))], 2, 0)),
            (("on", BY_PRICE, EVERY, 1000, gap), ([("pen", (6, "acme"))], 3, 0)),
            (("back", BY_PRICE, EVERY, 1, gap), ([("ink", (7, None))], 2, 1)),
            (("on", BY_PRICE, NOTHING, 1, gap), ([], 0, 0)),
            (("on", BY_PRICE, EVERY, 1, (((None,), "zz"), "behind")), ([], 4, 0)),
            (("back", BY_PRICE, EVERY, 1, (((SIXTY,), "a"), "ahead")), ([], 0, 4)),
        ):
            self.hold(told_between(page, 5, 5, question), None)
            self.hold(told_between((page[0], page[1], page[2] + 1), 5, 5, question), (6, "page"))

    def test_no_columns(self):
        events = [("put", "a", ()), ("asked", 0, ("on", BY_KEY, EVERY, 5, None)), ("told", 0, ([("a", ())], 0, 0))]
        self.hold(events, None, ())


class AmissTest(JudgeTest):
    BASE = DEEDS[:2] + [ASKED, ("asked", 2, QUESTION), ("told", 2, PAGES[2])]

    def bad_events(self):
        """For each word some events that are amiss behind BASE."""
        return {
            "event": [
                None, 5, "", "put", (), [], ["put", "new", (1, None)], ("Put", "new", (1, None)), ("page", []),
                ("ask", 3, QUESTION), ("asked",), ("asked", 3), ("asked", 3, QUESTION, None), ("told",), ("told", 1),
                ("told", 1, PAGES[2], None), ("asked", True, QUESTION), ("asked", "3", QUESTION), ("", "pen"),
                ("asked", None, QUESTION), ("asked", 3.0, QUESTION), ("asked", (3,), QUESTION),
                ("asked", [3], QUESTION),
                ("told", True, PAGES[2]), ("told", "1", PAGES[2]), ("told", None, PAGES[2]), ("told", [1], PAGES[2]),
                (None, 3, QUESTION), (("asked",), 3, QUESTION), (5, "pen"), (True, "pen"), ("asked ", 3, QUESTION),
            ],
            "deed": [
                ("put",), ("put", "new"), ("put", "new", (1, None), 5), ("change",), ("change", "pen"), ("take",),
                ("change", "pen", (1, None), 5), ("take", "pen", (5, "acme")), ("put", "pen", (5, "acme")),
                ("change", "new", (5, "acme")), ("take", "new"), ("put", "New", (1, None)), ("put", "new", (1,)),
                ("put", "new", [1, None]), ("put", "new", (True, None)), ("change", "pen", (1, 1)), ("take", "Pen"),
                ("take", None), ("put", Failing(), Failing()), ("take", Agreeing()),
            ],
            "asked": [("asked", number, question) for number, question in (
                (1, QUESTION), (2, QUESTION), (1, None), (3, None), (3, ()), (3, list(QUESTION)), (3, QUESTION[:4]),
                (3, QUESTION + (None,)), (3, ("On",) + QUESTION[1:]), (3, ("first",) + QUESTION[1:]),
                (3, (None,) + QUESTION[1:]), (3, (Agreeing(),) + QUESTION[1:]), (3, (Failing(),) + QUESTION[1:]),
                (3, ("on", None, EVERY, 2, None)), (3, ("on", ((("cost", "up", "last"),), "up"), EVERY, 2, None)),
                (3, ("back", BY_PRICE, None, 2, None)), (3, ("on", BY_PRICE, ("is", "cost", 5), 2, None)),
                (3, ("on", BY_PRICE, EVERY, 0, None)), (3, ("on", BY_PRICE, EVERY, 1001, None)),
                (3, ("on", BY_PRICE, EVERY, True, None)), (3, ("on", BY_PRICE, EVERY, "2", None)),
                (3, ("on", BY_PRICE, EVERY, 2, ())), (3, ("back", BY_PRICE, EVERY, 2, (((), "pen"), "ahead"))),
                (3, ("on", BY_KEY, EVERY, 2, (((5,), "pen"), "ahead"))), (3, "on"), (3, 5), (3, Failing()),
            )],
            "told": [
                ("told", 3, PAGES[2]), ("told", 0, PAGES[2]), ("told", -1, PAGES[2]), ("told", 2, PAGES[2]),
                ("told", 2, None), ("told", 3, None), ("told", 3, Failing()), ("told", 2, PAGES[1]),
            ],
            "page": [("told", 1, page) for page in (
                None, PAGES[0], PAGES[1], PAGES[3], list(PAGES[2]), Failing(), Agreeing(),
            )],
        }

    def test_each_word(self):
        for word, events in self.bad_events().items():
            for event in events:
                self.hold_last(self.BASE + [event], word)

    def test_things_of_any_other_sort(self):
        for thing in other_things():
            self.hold_last(self.BASE + [thing], "event")
            self.hold_last(self.BASE + [(thing,)], "event")
            self.hold_last(self.BASE + [(thing, 3, QUESTION)], "event")
            self.hold_last(self.BASE + [("asked", thing, QUESTION)], "event")
            self.hold_last(self.BASE + [("told", thing, PAGES[2])], "event")
            self.hold_last(self.BASE + [("asked", 3, thing)], "asked")
            self.hold_last(self.BASE + [("told", 1, thing)], "page")
            for place in range(5):
                question = QUESTION[:place] + (thing,) + QUESTION[place + 1:]
                self.hold_last(self.BASE + [("asked", 3, question)], "asked")

    def test_of_two_events_the_first_one_is_told(self):
        for (word, events), others in itertools.product(self.bad_events().items(), self.bad_events().values()):
            for event, other in itertools.product(events[::3], others[::4]):
                self.hold(self.BASE + [event, other], (5, word))
                deeds = [("put", "zoo", (None, None)), ("take", "zoo")]
                self.hold(self.BASE + [deeds[0], event, deeds[1], other], (6, word))

    def test_of_two_in_one_event_the_first_one_is_told(self):
        for event, word in (
            (("asked", True, None), "event"), (("told", "1", None), "event"), (("told", 1, None, None), "event"),
            (("asked", 1, None, None), "event"), (["take", "new"], "event"),
            (("put", "pen", (5,)), "deed"), (("change", "New", ()), "deed"), (("take", "New", 1), "deed"),
            (("asked", 2, None), "asked"), (("asked", 1, ("on", None, None, None, 5)), "asked"),
            (("told", 2, None), "told"), (("told", 3, PAGES[4]), "told"), (("told", 2, PAGES[4]), "told"),
        ):
            self.hold_last(self.BASE + [event], word)

    def test_a_number_stays_asked_when_it_is_told(self):
        events = DEEDS[:2] + [ASKED, ("told", 1, PAGES[2])]
        self.hold_last(events + [ASKED], "asked")
        self.hold_last(events + [DEEDS[2], ("told", 1, PAGES[3])], "told")

    def test_what_was_done_ahead_of_the_first_deed_counts(self):
        self.hold_last([("told", 1, PAGES[0])], "told")
        self.hold_last([ASKED, ("told", 1, PAGES[0])], None)
        self.hold_last([("take", "pen")], "deed")
        self.hold_last(DEEDS[:1] + [("put", "pen", (5, None))], "deed")
        self.hold_last(DEEDS[:1] + [("take", "pen"), ("take", "pen")], "deed")
        self.hold(DEEDS[:1] + [("take", "pen"), ("put", "pen", (5, None))], None)


class PageTest(JudgeTest):
    """Whatever stands in the place of a page is told of, part by part."""

    DEEDS = [("put", "a", (1, "x")), ("put", "b", (1, None)), ("put", "c", (0, ""))]
    QUESTION = ("on", BY_KEY, EVERY, 1, (((), "a"), "behind"))
    ROW = ("b", (1, None))

    def hold_page(self, page, is_right=False):
        events = self.DEEDS + [("asked", 7, self.QUESTION), ("told", 7, page)]
        self.hold(events, None if is_right else (4, "page"))
        self.hold(events + [("take", "a")], None if is_right else (4, "page"))

    def test_the_right_one(self):
        self.hold_page(([self.ROW], 1, 1), True)

    def test_of_other_kinds(self):
        rows = [self.ROW]
        for page in (
            [rows, 1, 1], (rows, 1), (rows, 1, 1, None), (rows,), (), (tuple(rows), 1, 1), (self.ROW, 1, 1),
            ([list(self.ROW)], 1, 1), ([("b", [1, None])], 1, 1), (None, 1, 1), ("b", 1, 1), {}, "page", 1,
            ([self.ROW, 1, 1],), (rows, "1", 1), (rows, 1, "1"), (rows, None, 1), (rows, 1.0, 1), (rows, 1, 1.0),
            (iter(rows), 1, 1), (rows, (1,), 1), ({"b": (1, None)}, 1, 1),
        ):
            self.hold_page(page)

    def test_truths_are_no_numbers(self):
        for page in (
            ([self.ROW], True, 1), ([self.ROW], 1, True), ([self.ROW], True, True), ([("b", (True, None))], 1, 1),
            ([("b", (1.0, None))], 1, 1), ([("b", ("1", None))], 1, 1), ([("b", (1, False))], 1, 1),
        ):
            self.hold_page(page)
        for page, is_right in ((([("c", (0, ""))], 2, 0), True), (([("c", (False, ""))], 2, 0), False),
                               (([("c", (0, ""))], 2, False), False)):
            events = self.DEEDS + [("asked", 7, ("back", BY_KEY, EVERY, 1, None)), ("told", 7, page)]
            self.hold(events, None if is_right else (4, "page"))

    def test_one_off(self):
        rows = [self.ROW]
        for page in (
            ([], 1, 1), ([], 1, 2), (rows + [("c", (0, ""))], 1, 0), (rows + rows, 1, 1), (rows, 0, 1), (rows, 2, 1),
            (rows, 1, 0), (rows, 1, 2), ([("b", (1, ""))], 1, 1), ([("b", (2, None))], 1, 1),
            ([("b", (None, None))], 1, 1),
            ([("b", (1,))], 1, 1), ([("b", (1, None, None))], 1, 1), ([("a", (1, None))], 1, 1), ([("b",)], 1, 1),
            ([("b", (1, None), 5)], 1, 1), ([("b", None)], 1, 1), ([(None, (1, None))], 1, 1), ([None], 1, 1),
            ([("c", (0, ""))], 2, 0),
        ):
            self.hold_page(page)

    def test_rows_in_another_order(self):
        rows = [("a", (1, "x")), ("b", (1, None)), ("c", (0, ""))]
        question = ("on", BY_KEY, EVERY, 3, None)
        for told in itertools.permutations(rows):
            events = self.DEEDS + [("asked", 7, question), ("told", 7, (list(told), 0, 0))]
            self.hold(events, None if list(told) == rows else (4, "page"))

    def test_whatever_it_is(self):
        for thing in other_things():
            self.hold_page(thing)
            self.hold_page((thing, 1, 1))
            self.hold_page(([self.ROW], thing, 1))
            self.hold_page(([self.ROW], 1, thing))
            self.hold_page(([thing], 1, 1))
            self.hold_page(([(thing, (1, None))], 1, 1))
            self.hold_page(([("b", thing)], 1, 1))
            self.hold_page(([("b", (thing, None))], 1, 1))
            self.hold_page(([("b", (1, thing))], 1, 1))


class ByChanceTest(JudgeTest):
    """Houses by chance, beside what page_on and page_back tell at each moment."""

    def question(self, chance, shelf):
        order = chance.choice(ORDERS)
        rows = [("c", (0, "a")), ("zz", (None, None))] + shelf.all_at()
        gap = chance.choice([None, (place_of(GOODS, order, chance.choice(rows)), chance.choice(("ahead", "behind")))])
        return (chance.choice(("on", "back")), order, chance.choice(SIEVES), chance.randint(1, 3), gap)

    def page(self, shelf, question, moment):
        ask = page_on if question[0] == "on" else page_back
        return ask(shelf, *question[1:], moment)

    def spoiled(self, chance, page):
        rows = list(page[0])
        change = chance.randint(0, 4)
        if change == 0 and rows:
            rows.pop(chance.randrange(len(rows)))
        if change == 1 and rows:
            rows.reverse()
        if change == 2 and rows:
            rows[0] = (rows[0][0], (chance.choice((None, True, 1, 2)), rows[0][1][1]))
        return (rows, page[1] + (change == 3), page[2])

    def events(self, chance):
        """Events with a page told as of any moment, sometimes spoiled; and what is to be told of them."""
        shelf = Shelf(GOODS)
        events = []
        asked = {}
        for number in range(chance.randint(5, 40)):
            choice = chance.random()
            if choice < 0.6:
                events.append(any_deed(chance, shelf, KEYS))
                do_deed(shelf, events[-1])
            elif choice < 0.8 or not asked:
                asked[number] = (shelf.now(), self.question(chance, shelf))
                events.append(("asked", number, asked[number][1]))
            else:
                answered = chance.choice(list(asked))
                begin, question = asked.pop(answered)
                lowest = begin if chance.random() < 0.9 else 0
                page = self.page(shelf, question, chance.randint(lowest, shelf.now()))
                if chance.random() < 0.1:
                    page = self.spoiled(chance, page)
                events.append(("told", answered, page))
                # Of things of Python's own kinds the texts are the same where the things are, part by part.
                could_be = [repr(self.page(shelf, question, moment)) for moment in range(begin, shelf.now() + 1)]
                if repr(page) not in could_be:
                    return events, (len(events) - 1, "page")
        return events, None

    def test_any_events(self):
        chance = random.Random(12)
        counts = {None: 0, "page": 0}
        for _ in range(500):
            events, right = self.events(chance)
            before = repr(events)
            self.hold(events, right)
            self.assertEqual(repr(events), before)
            counts[right and right[1]] += 1
        self.assertGreater(min(counts.values()), 50)


class ManyTest(JudgeTest):
    def test_three_hundred_rows_and_two_thousand_deeds(self):
        shelf = Shelf(GOODS)
        question = ("back", BY_PRICE, ("not", ("is", "maker", "b")), 20, (((3,), "k5"), "behind"))
        for number in range(300):
            shelf.put("k" + str(number), (number % 7, None))
        deeds = shelf.history()
        for number in range(1700):
            shelf.change("k" + str(number * 11 % 300), (number % 9, "ab"[number % 2]))
        events = deeds + [("asked", 1, question), ("asked", 2, question)] + shelf.history()[300:]
        page = page_back(shelf, *question[1:], 1200)
        self.hold(events + [("told", 1, page)], None)
        wrong = ("told", 2, (page[0][::-1], page[1], page[2]))
        self.hold(events + [("told", 1, page), wrong], (2003, "page"))


if __name__ == "__main__":
    unittest.main()
