"""Sieves of columns, and which rows pass them."""

from pageturns.columns import kind_named, value_in
from pageturns.errors import BadSieve
from pageturns.values import is_key, is_value

MOST_DEEP = 8
MOST_PARTS = 200
MOST_IN_A_TUPLE = 8
LENGTHS = {
    "every": 1, "is": 3, "below": 3, "above": 3, "begins": 3,
    "key": 2, "not": 2, "and": 2, "or": 2,
}


def check_sieve(columns, sieve):
    # Depth by depth and not by recursion: what is handed in may be thousands deep.
    # The parts are counted ahead of looking into them, as one sieve may stand in many places.
    level = [sieve]
    deep = 0
    parts = 0
    while len(level) > 0:
        deep += 1
        parts += len(level)
        if deep > MOST_DEEP or parts > MOST_PARTS:
            raise BadSieve("a sieve is at most eight deep and of at most two hundred parts")
        if not all([is_formed(columns, thing) for thing in level]):
            raise BadSieve("a sieve is a tuple of one of nine forms")
        level = sieves_within(level)


def is_formed(columns, thing):
    """Whether a thing is a sieve, whatever stands in it in the place of other sieves."""
    if not isinstance(thing, tuple) or len(thing) == 0 or not isinstance(thing[0], str):
        return False
    if LENGTHS.get(thing[0]) != len(thing):
        return False
    if thing[0] in ("is", "below", "above", "begins"):
        return fits_column(columns, thing)
    if thing[0] == "key":
        return is_short_tuple(thing[1]) and all([is_key(key) for key in thing[1]])
    if thing[0] in ("and", "or"):
        return is_short_tuple(thing[1])
    return True


def is_short_tuple(thing):
    return isinstance(thing, tuple) and len(thing) <= MOST_IN_A_TUPLE


def fits_column(columns, sieve):
    kind = kind_named(columns, sieve[1])
    if kind is None or not is_value(kind, sieve[2]):
        return False
    if sieve[0] == "is":
        return True
    if sieve[0] == "begins" and kind != "word":
        return False
    return sieve[2] is not None


def sieves_within(sieves):
    found = []
    for sieve in sieves:
        if sieve[0] == "not":
            found.append(sieve[1])
        if sieve[0] in ("and", "or"):
            found.extend(sieve[1])
    return found


def passes(columns, sieve, row):
    if sieve[0] == "every":
        return True
    if sieve[0] == "key":
        return row[0] in sieve[1]
    if sieve[0] == "not":
        return not passes(columns, sieve[1], row)
    if sieve[0] == "and":
        return all([passes(columns, inner, row) for inner in sieve[1]])
    if sieve[0] == "or":
        return any([passes(columns, inner, row) for inner in sieve[1]])
    return value_passes(sieve[0], value_in(columns, row, sieve[1]), sieve[2])


def value_passes(word, value, told):
    if word == "is":
        return value == told
    if value is None:
        return False
    if word == "below":
        return value < told
    if word == "above":
        return value > told
    return value.startswith(told)
