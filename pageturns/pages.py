"""Pages of a shelf's answers, on and back from a gap, and stretches between gaps."""

from pageturns.answers import ordered_answer
from pageturns.errors import BadSize
from pageturns.orders import check_gap, check_order, is_ahead, place_of
from pageturns.sieves import check_sieve
from pageturns.values import is_whole

MOST_ROWS = 1000


def page_on(shelf, order, sieve, size, gap=None, moment=None):
    check_page(shelf.has_columns(), order, sieve, size, gap)
    return page_on_of(shelf.has_columns(), order, ordered_answer(shelf, order, sieve, moment), size, gap)


def page_back(shelf, order, sieve, size, gap=None, moment=None):
    check_page(shelf.has_columns(), order, sieve, size, gap)
    return page_back_of(shelf.has_columns(), order, ordered_answer(shelf, order, sieve, moment), size, gap)


def page_on_of(columns, order, answer, size, gap):
    """The page on of a plain answer, of what is checked already."""
    begin = 0 if gap is None else count_ahead(columns, order, answer, gap)
    return page_from(answer, begin, size)


def page_back_of(columns, order, answer, size, gap):
    end = len(answer) if gap is None else count_ahead(columns, order, answer, gap)
    return page_up_to(answer, end, size)


def page_from(answer, begin, size):
    return page_between(answer, begin, min(begin + size, len(answer)))


def page_up_to(answer, end, size):
    return page_between(answer, max(end - size, 0), end)


def page_between(answer, begin, end):
    return (answer[begin:end], begin, len(answer) - end)


def check_page(columns, order, sieve, size, gap):
    check_order(columns, order)
    check_sieve(columns, sieve)
    check_size(size)
    check_bound(columns, order, gap)


def check_size(size):
    if not is_whole(size) or not 1 <= size <= MOST_ROWS:
        raise BadSize("a size is a whole number from 1 to 1000")


def check_bound(columns, order, gap):
    if gap is not None:
        check_gap(columns, order, gap)


def count_ahead(columns, order, answer, gap):
    """How many rows stand ahead of a gap, of rows that are in the order."""
    low = 0
    high = len(answer)
    while low < high:
        middle = (low + high) // 2
        if is_ahead(order, place_of(columns, order, answer[middle]), gap):
            low = middle + 1
        else:
            high = middle
    return low


def gaps_of(columns, order, page):
    rows = page[0]
    if len(rows) == 0:
        return None
    return ((place_of(columns, order, rows[0]), "ahead"), (place_of(columns, order, rows[-1]), "behind"))


def gaps_behind(columns, order, page, asked_from):
    """Where one stands behind a page: at its gaps, or twice at where it was asked from if it is without rows."""
    gaps = gaps_of(columns, order, page)
    return (asked_from, asked_from) if gaps is None else gaps


def stretch(shelf, order, sieve, fore=None, hinder=None, moment=None):
    columns = shelf.has_columns()
    check_order(columns, order)
    check_sieve(columns, sieve)
    check_bound(columns, order, fore)
    check_bound(columns, order, hinder)
    answer = ordered_answer(shelf, order, sieve, moment)
    begin = 0 if fore is None else count_ahead(columns, order, answer, fore)
    end = len(answer) if hinder is None else count_ahead(columns, order, answer, hinder)
    # Where the hinder gap stands ahead of the fore one, begin may lie above end: the slice is without rows.
    return answer[begin:end]
