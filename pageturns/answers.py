"""Plain answers: all rows that stood at a moment and pass a sieve, in an order."""

from pageturns.columns import value_in
from pageturns.orders import check_order
from pageturns.sieves import check_sieve, passes


def plain(shelf, order, sieve, moment=None):
    check_order(shelf.has_columns(), order)
    check_sieve(shelf.has_columns(), sieve)
    return ordered_answer(shelf, order, sieve, moment)


def count_of(shelf, sieve, moment=None):
    check_sieve(shelf.has_columns(), sieve)
    return len(rows_passing(shelf, sieve, moment))


def ordered_answer(shelf, order, sieve, moment):
    """The plain answer of an order and a sieve that are checked already."""
    return in_order(shelf.has_columns(), order, rows_passing(shelf, sieve, moment))


def rows_passing(shelf, sieve, moment):
    columns = shelf.has_columns()
    return [row for row in shelf.all_at(moment) if passes(columns, sieve, row)]


def in_order(columns, order, rows):
    # A sorting leaves rows that it does not tell apart as they stood: so what tells last is sorted by first.
    ordered = sorted_by_keys(rows, order[1])
    for part in reversed(order[0]):
        ordered = sorted_by_part(columns, part, ordered)
    return ordered


def sorted_by_keys(rows, way):
    if way == "down":
        return sorted(rows, key=lambda row: row[0], reverse=True)
    return sorted(rows, key=lambda row: row[0])


def sorted_by_part(columns, part, rows):
    # None can't be compared with values, and its end does not go by the way.
    without = [row for row in rows if value_in(columns, row, part[0]) is None]
    valued = [row for row in rows if value_in(columns, row, part[0]) is not None]
    valued = sorted_by_values(columns, part, valued)
    return without + valued if part[2] == "first" else valued + without


def sorted_by_values(columns, part, rows):
    if part[1] == "down":
        return sorted(rows, key=lambda row: value_in(columns, row, part[0]), reverse=True)
    return sorted(rows, key=lambda row: value_in(columns, row, part[0]))
