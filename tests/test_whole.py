"""Point 3 over the whole program: shelf, keeper, reader, walk, desk and both judges, with the same deeds."""

import random
import unittest

from helper import EVERY, GOODS, NOTHING, all_orders, any_deed
from pageturns.answers import plain
from pageturns.deeds import do_deed
from pageturns.desks import Desk
from pageturns.faults import walk_fault
from pageturns.judges import judged
from pageturns.keepers import Keeper
from pageturns.marks import mark_text, read_mark
from pageturns.orders import place_of, turned, turned_gap
from pageturns.pages import gaps_of, page_back, page_on
from pageturns.readers import Reader
from pageturns.shelves import Shelf
from pageturns.texts import show_columns, show_order, show_row, show_sieve
from pageturns.walks import Walk

ORDERS = all_orders(()) + all_orders(("price",)) + all_orders(("maker", "price"))[::5]
SIEVES = (EVERY, EVERY, NOTHING, ("not", ("is", "price", 1)), ("begins", "maker", "a"), ("key", ("a", "b", "c")))
KEYS = tuple("abcdefghi")


class World:
    """One question asked of all the program's parts, to which the same deeds are done."""

    def __init__(self, chance):
        self.chance = chance
        self.order = chance.choice(ORDERS)
        self.sieve = chance.choice(SIEVES)
        self.size = chance.randint(1, 4)
        self.shelf = Shelf(GOODS)
        self.keeper = Keeper(GOODS, self.order)
        self.reader = Reader(self.shelf, 1000)
        self.walk = Walk(self.shelf, self.order, self.sieve, self.size)
        self.desk = Desk()
        self.desk.say("columns " + show_columns(GOODS))
        self.house_events = []
        self.walk_events = []

    def do(self):
        deed = any_deed(self.chance, self.shelf, KEYS)
        do_deed(self.shelf, deed)
        self.keeper.feed(deed)
        self.desk.say(deed[0] + " " + (deed[1] if deed[0] == "take" else show_row(deed[1:])))
        self.house_events.append(deed)
        self.walk_events.append(deed)

    def gap(self):
        rows = [("e", (0, "a")), ("zz", (None, None))] + self.shelf.all_at()
        place = place_of(GOODS, self.order, self.chance.choice(rows))
        return self.chance.choice([None, (place, "ahead"), (place, "behind")])

    def desk_page(self, word, gap):
        if gap is None:
            word = {"on": "first", "back": "last"}[word]
            line = [str(self.size), show_order(self.order), show_sieve(self.sieve)]
        else:
            mark = mark_text((self.shelf.now(), self.order, gap))
            line = [str(self.size), show_sieve(self.sieve), mark]
        return self.desk.say(word + " " + " | ".join(line))


def desk_text(page):
    lines = [" ".join(str(number) for number in (page[1], len(page[0]), page[2]))]
    lines += [show_row(row) for row in page[0]]
    return "\n".join(lines + ["back " + (page[3] or "none"), "on " + (page[4] or "none")])


class WholeTest(unittest.TestCase):
    def hold_same(self, world, gap):
        """On and back, the shelf, the keeper, the reader and the desk tell the same page."""
        given = (world.order, world.sieve, world.size)
        mark = None if gap is None else mark_text((world.shelf.now(), world.order, gap))
        reader = world.reader
        for word, page, kept, read in (
            ("on", page_on(world.shelf, *given, gap), world.keeper.on(world.sieve, world.size, gap),
             reader.first(*given) if mark is None else reader.on(mark, *given[1:])),
            ("back", page_back(world.shelf, *given, gap), world.keeper.back(world.sieve, world.size, gap),
             reader.last(*given) if mark is None else reader.back(mark, *given[1:])),
        ):
            self.assertEqual(kept, page)
            self.assertEqual(read[:3], page)
            self.assertEqual(world.desk_page(word, gap), desk_text(read))
            gaps = gaps_of(GOODS, world.order, page) or (gap, gap)
            for text, side in zip(read[3:], gaps):
                told = None if text is None else read_mark(GOODS, text)
                self.assertEqual(told, None if side is None else (world.shelf.now(), world.order, side))

    def hold_turned(self, world, gap):
        other = None if gap is None else turned_gap(gap)
        rows, ahead, behind = page_on(world.shelf, turned(world.order), world.sieve, world.size, other)
        back = page_back(world.shelf, world.order, world.sieve, world.size, gap)
        self.assertEqual(back, (rows[::-1], behind, ahead))

    def hold_end_to_end(self, world):
        rows = []
        page = world.reader.first(world.order, world.sieve, world.size)
        while page[0]:
            rows += page[0]
            page = world.reader.on(page[4], world.sieve, world.chance.randint(1, 5))
        self.assertEqual(rows, plain(world.shelf, world.order, world.sieve))
        texts = world.desk.say("plain " + show_order(world.order) + " | " + show_sieve(world.sieve))
        self.assertEqual(texts, "\n".join(show_row(row) for row in rows))

    def test_the_same_deeds_and_questions_everywhere(self):
        chance = random.Random(20)
        for _ in range(60):
            world = World(chance)
            for number in range(40):
                world.do()
                gap = world.gap()
                self.hold_same(world, gap)
                self.hold_turned(world, gap)
                if number % 10 == 0:
                    self.hold_end_to_end(world)
                question = (chance.choice(("on", "back")), world.order, world.sieve, world.size, gap)
                world.house_events.append(("asked", number, question))
                if number >= 5:
                    # Told five deeds behind the asking, as of any moment since then.
                    asked = [event for event in world.house_events if event[:2] == ("asked", number - 5)][0][2]
                    ask = page_on if asked[0] == "on" else page_back
                    page = ask(world.shelf, *asked[1:], world.shelf.now() - chance.randint(0, 5))
                    world.house_events.append(("told", number - 5, page))
                world.walk_events.append(("page", world.walk.on()[0]))
            self.assertIsNone(judged(GOODS, world.house_events))
            self.assertIsNone(walk_fault(GOODS, world.order, world.sieve, world.walk_events))
            self.hold_first_wrong(world)

    def hold_first_wrong(self, world):
        """Of two pages that count one row too many the first one is told."""
        events = list(world.house_events)
        places = sorted(world.chance.sample([place for place, event in enumerate(events) if event[0] == "told"], 2))
        for place in places:
            rows, ahead, behind = events[place][2]
            events[place] = ("told", events[place][1], (rows, ahead + 100, behind))
        self.assertEqual(judged(GOODS, events), (places[0], "page"))


if __name__ == "__main__":
    unittest.main()
