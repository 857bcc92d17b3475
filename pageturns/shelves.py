"""Shelves: rows that are put, changed and taken, and what is told of them at any moment."""

from pageturns.columns import check_columns, check_row
from pageturns.errors import BadRow, HasKey, NoKey, NoMoment
from pageturns.values import is_key, is_whole


class Shelf:
    def __init__(self, columns):
        check_columns(columns)
        self.columns = columns
        self.deeds = []
        self.runs = {}

    def put(self, key, worths):
        check_row(self.columns, (key, worths))
        if self.worths_at(key) is not None:
            raise HasKey("a row with this key stands")
        self.deeds.append(("put", key, worths))
        self.begin_standing(key, worths)

    def change(self, key, worths):
        check_row(self.columns, (key, worths))
        self.check_stands(key)
        self.end_standing(key)
        self.deeds.append(("change", key, worths))
        self.begin_standing(key, worths)

    def take(self, key):
        if not is_key(key):
            raise BadRow("what is taken is no key")
        self.check_stands(key)
        self.end_standing(key)
        self.deeds.append(("take", key))

    def check_stands(self, key):
        if self.worths_at(key) is None:
            raise NoKey("no row with this key stands")

    def begin_standing(self, key, worths):
        self.runs.setdefault(key, []).append((self.now(), None, worths))

    def end_standing(self, key):
        standing = self.runs[key].pop()
        self.runs[key].append((standing[0], self.now(), standing[2]))

    def has_columns(self):
        return self.columns

    def now(self):
        # Each deed makes the moment one more, and nothing else does.
        return len(self.deeds)

    def worths_at(self, key, moment=None):
        then = self.moment_meant(moment)
        if not is_key(key):
            return None
        return worths_then(self.runs.get(key, []), then)

    def all_at(self, moment=None):
        then = self.moment_meant(moment)
        rows = [(key, worths_then(self.runs[key], then)) for key in sorted(self.runs)]
        return [row for row in rows if row[1] is not None]

    def standings_of(self, key):
        if not is_key(key):
            return []
        return list(self.runs.get(key, []))

    def history(self):
        return list(self.deeds)

    def moment_meant(self, moment):
        if moment is None:
            return self.now()
        if not is_whole(moment) or not 0 <= moment <= self.now():
            raise NoMoment("a moment is a whole number from 0 to now")
        return moment


def worths_then(standings, moment):
    # Of those that had begun only the last one can have lasted.
    for standing in reversed(standings):
        if standing[0] <= moment:
            return standing[2] if standing[1] is None or moment <= standing[1] else None
    return None
