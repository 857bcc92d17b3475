"""Deeds, as tuples: what was done to a shelf, or is to be done to one."""

from pageturns.errors import BadDeed, PageError

LENGTHS = {"put": 3, "change": 3, "take": 2}


def check_deed(deed):
    """None, or BadDeed where a thing has not the form of a deed, whatever its key and worths are."""
    if not isinstance(deed, tuple) or len(deed) == 0 or not isinstance(deed[0], str):
        raise BadDeed("a deed is a tuple with a word ahead")
    if LENGTHS.get(deed[0]) != len(deed):
        raise BadDeed("a deed is a put or a change of a key and worths, or a take of a key")


def do_deed(shelf, deed):
    check_deed(deed)
    if deed[0] == "put":
        shelf.put(deed[1], deed[2])
    elif deed[0] == "change":
        shelf.change(deed[1], deed[2])
    else:
        shelf.take(deed[1])


def is_done(shelf, deed):
    """Whether a deed could be done, and so was: not where it is none, nor where the shelf refuses it."""
    try:
        do_deed(shelf, deed)
    except PageError:
        return False
    return True
