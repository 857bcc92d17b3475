"""Numbers, words, names and keys, and how two values are compared."""

KINDS = ("number", "word")
MOST_NAME_SIGNS = 8
MOST_KEY_SIGNS = 12
MOST_WORD_SIGNS = 40


def is_whole(thing):
    # Python counts True and False among the ints.
    return isinstance(thing, int) and not isinstance(thing, bool)


def is_letter(sign):
    return "a" <= sign <= "z"


def is_figure(sign):
    return "0" <= sign <= "9"


def is_name(thing):
    if not isinstance(thing, str) or not 1 <= len(thing) <= MOST_NAME_SIGNS:
        return False
    return all([is_letter(sign) for sign in thing])


def is_key(thing):
    if not isinstance(thing, str) or not 1 <= len(thing) <= MOST_KEY_SIGNS:
        return False
    if not is_letter(thing[0]):
        return False
    return all([is_letter(sign) or is_figure(sign) for sign in thing])


def is_word(thing):
    if not isinstance(thing, str) or len(thing) > MOST_WORD_SIGNS:
        return False
    return all([" " <= sign <= "~" for sign in thing])


def is_kind(thing):
    # Whatever is no text must not get to say itself whether it equals a kind.
    return isinstance(thing, str) and thing in KINDS


def is_value(kind, thing):
    if thing is None:
        return True
    if kind == "number":
        return is_whole(thing)
    return is_word(thing)


def compared(one, other, way, end):
    if one is None or other is None:
        return compared_with_none(one, other, end)
    if one == other:
        return 0
    is_less = one < other
    return -1 if is_less == (way == "up") else 1


def compared_with_none(one, other, end):
    if one is None and other is None:
        return 0
    none_is_ahead = end == "first"
    return -1 if none_is_ahead == (one is None) else 1
