"""Columns, and the rows that fit them."""

from pageturns.errors import BadColumns, BadRow
from pageturns.values import is_key, is_kind, is_name, is_value

MOST_COLUMNS = 8


def check_columns(columns):
    if not isinstance(columns, tuple) or len(columns) > MOST_COLUMNS:
        raise BadColumns("columns are a tuple of none to eight tuples")
    if not all([is_column(column) for column in columns]):
        raise BadColumns("a column is a tuple of a name and a kind")
    if len(set(names_of(columns))) != len(columns):
        raise BadColumns("the names of columns are unlike")


def is_column(thing):
    if not isinstance(thing, tuple) or len(thing) != 2:
        return False
    return is_name(thing[0]) and is_kind(thing[1])


def names_of(columns):
    return [name for name, kind in columns]


def kind_named(columns, name):
    # Only a name is compared: other things may answer anything, or fail.
    if not is_name(name):
        return None
    return dict(columns).get(name)


def check_row(columns, row):
    if not isinstance(row, tuple) or len(row) != 2:
        raise BadRow("a row is a tuple of a key and worths")
    if not is_key(row[0]):
        raise BadRow("the key of a row is none")
    if not are_worths(columns, row[1]):
        raise BadRow("worths are a tuple of a value for each column")


def are_worths(columns, thing):
    if not isinstance(thing, tuple) or len(thing) != len(columns):
        return False
    return all([is_value(column[1], value) for column, value in zip(columns, thing)])


def value_in(columns, row, name):
    return row[1][names_of(columns).index(name)]
