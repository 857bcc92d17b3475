"""Orders of columns, their places and gaps."""

from pageturns.columns import kind_named, value_in
from pageturns.errors import BadOrder, BadPlace
from pageturns.values import compared, is_key, is_value

MOST_PARTS = 8
OTHER_WAY = {"up": "down", "down": "up"}
OTHER_END = {"first": "last", "last": "first"}
OTHER_SIDE = {"ahead": "behind", "behind": "ahead"}


# Only a text is looked up in what follows: other things may not be hashable, or may fail.

def is_way(thing):
    return isinstance(thing, str) and thing in OTHER_WAY


def is_end(thing):
    return isinstance(thing, str) and thing in OTHER_END


def is_side(thing):
    return isinstance(thing, str) and thing in OTHER_SIDE


def check_order(columns, order):
    if not isinstance(order, tuple) or len(order) != 2:
        raise BadOrder("an order is a tuple of parts and a way")
    parts = order[0]
    if not isinstance(parts, tuple) or len(parts) > MOST_PARTS:
        raise BadOrder("parts are a tuple of none to eight tuples")
    if not all([is_part(columns, part) for part in parts]):
        raise BadOrder("a part is a tuple of a column's name, a way and an end")
    names = [part[0] for part in parts]
    if len(set(names)) != len(names):
        raise BadOrder("the columns of the parts are unlike")
    if not is_way(order[1]):
        raise BadOrder("the way of the keys is up or down")


def is_part(columns, thing):
    if not isinstance(thing, tuple) or len(thing) != 3:
        return False
    return kind_named(columns, thing[0]) is not None and is_way(thing[1]) and is_end(thing[2])


def check_place(columns, order, place):
    if not isinstance(place, tuple) or len(place) != 2:
        raise BadPlace("a place is a tuple of values and a key")
    if not are_place_values(columns, order[0], place[0]):
        raise BadPlace("the values of a place are a tuple of a value for each part")
    if not is_key(place[1]):
        raise BadPlace("the key of a place is none")


def are_place_values(columns, parts, thing):
    if not isinstance(thing, tuple) or len(thing) != len(parts):
        return False
    return all([is_value(kind_named(columns, part[0]), value) for part, value in zip(parts, thing)])


def check_gap(columns, order, gap):
    if not isinstance(gap, tuple) or len(gap) != 2:
        raise BadPlace("a gap is a tuple of a place and a side")
    check_place(columns, order, gap[0])
    if not is_side(gap[1]):
        raise BadPlace("the side of a gap is ahead or behind")


def place_of(columns, order, row):
    values = [value_in(columns, row, part[0]) for part in order[0]]
    return (tuple(values), row[0])


def places_compared(order, one, other):
    for part, value, other_value in zip(order[0], one[0], other[0]):
        answer = compared(value, other_value, part[1], part[2])
        if answer != 0:
            return answer
    # No key is None, so the end tells nothing here.
    return compared(one[1], other[1], order[1], "last")


def is_ahead(order, place, gap):
    answer = places_compared(order, place, gap[0])
    if answer == 0:
        return gap[1] == "behind"
    return answer < 0


def turned(order):
    parts = [(part[0], OTHER_WAY[part[1]], OTHER_END[part[2]]) for part in order[0]]
    return (tuple(parts), OTHER_WAY[order[1]])


def turned_gap(gap):
    return (gap[0], OTHER_SIDE[gap[1]])
