"""What houses told in pages, judged: whether a right house could have told it."""

from pageturns.answers import ordered_answer
from pageturns.deeds import is_done
from pageturns.errors import BadDeed, PageError
from pageturns.orders import place_of
from pageturns.pages import check_page, count_ahead, page_back_of, page_on_of
from pageturns.shelves import Shelf
from pageturns.sieves import passes
from pageturns.values import is_whole


def judged(columns, events):
    house = House(columns)
    if not isinstance(events, list):
        raise BadDeed("events are a list")
    for place, event in enumerate(events):
        word = house.amiss(event)
        if word is not None:
            return (place, word)
    return None


# It holds what a house has done, was asked and has told so far, all of it right.
class House:
    def __init__(self, columns):
        self.shelf = Shelf(columns)
        self.questions = {}
        self.answered = {}

    def amiss(self, event):
        """The word of what is amiss, or None: then the event is taken up."""
        if not is_event(event):
            return "event"
        if event[0] == "asked":
            return self.ask(event[1], event[2])
        if event[0] == "told":
            return self.tell(event[1], event[2])
        return None if is_done(self.shelf, event) else "deed"

    def ask(self, number, question):
        if number in self.questions or not is_question(self.shelf.has_columns(), question):
            return "asked"
        self.questions[number] = (self.shelf.now(), question)
        return None

    def tell(self, number, page):
        if number not in self.questions or number in self.answered:
            return "told"
        asked = self.questions[number]
        if not was_page(self.shelf, asked[0], asked[1], page):
            return "page"
        self.answered[number] = True
        return None


def is_event(thing):
    if not isinstance(thing, tuple) or len(thing) == 0 or not isinstance(thing[0], str):
        return False
    if thing[0] in ("asked", "told"):
        return len(thing) == 3 and is_whole(thing[1])
    return thing[0] in ("put", "change", "take")


def is_question(columns, thing):
    if not isinstance(thing, tuple) or len(thing) != 5:
        return False
    if not isinstance(thing[0], str) or thing[0] not in ("on", "back"):
        return False
    try:
        check_page(columns, thing[1], thing[2], thing[3], thing[4])
    except PageError:
        return False
    return True


def was_page(shelf, begin, question, page):
    """Whether a page was that of the question at any moment from begin to now."""
    columns = shelf.has_columns()
    answer = ordered_answer(shelf, question[1], question[2], begin)
    if is_same(page, page_of(columns, question, answer)):
        return True
    for deed in shelf.history()[begin:]:
        answer = answer_behind(columns, question, answer, deed)
        if is_same(page, page_of(columns, question, answer)):
            return True
    return False


def page_of(columns, question, answer):
    if question[0] == "on":
        return page_on_of(columns, question[1], answer, question[3], question[4])
    return page_back_of(columns, question[1], answer, question[3], question[4])


def answer_behind(columns, question, answer, deed):
    # A deed moves one row: to put just this one anew takes far less than to put all in order at each moment.
    others = [row for row in answer if row[0] != deed[1]]
    if deed[0] == "take" or not passes(columns, question[2], deed[1:]):
        return others
    gap = (place_of(columns, question[1], deed[1:]), "ahead")
    begin = count_ahead(columns, question[1], others, gap)
    return others[:begin] + [deed[1:]] + others[begin:]


def is_same(thing, right):
    """Whether a thing, whatever it is, is the right one part by part, and of the same kinds."""
    if isinstance(right, tuple):
        return isinstance(thing, tuple) and are_same(thing, right)
    if isinstance(right, list):
        return isinstance(thing, list) and are_same(thing, right)
    if isinstance(right, str):
        return isinstance(thing, str) and thing == right
    if right is None:
        return thing is None
    return is_whole(thing) and thing == right


def are_same(things, rights):
    if len(things) != len(rights):
        return False
    return all([is_same(thing, right) for thing, right in zip(things, rights)])
