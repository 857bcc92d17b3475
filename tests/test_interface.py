"""The names, arguments and defaults of the document's interface."""

import importlib
import inspect
import unittest

FUNCTIONS = """
    values is_whole(thing)
    values is_name(thing)
    values is_key(thing)
    values is_word(thing)
    values is_value(kind, thing)
    values compared(one, other, way, end)
    columns check_columns(columns)
    columns check_row(columns, row)
    columns kind_named(columns, name)
    columns value_in(columns, row, name)
    orders check_order(columns, order)
    orders check_place(columns, order, place)
    orders check_gap(columns, order, gap)
    orders place_of(columns, order, row)
    orders places_compared(order, one, other)
    orders is_ahead(order, place, gap)
    orders turned(order)
    orders turned_gap(gap)
    sieves check_sieve(columns, sieve)
    sieves passes(columns, sieve, row)
    answers plain(shelf, order, sieve, moment=None)
    answers count_of(shelf, sieve, moment=None)
    pages page_on(shelf, order, sieve, size, gap=None, moment=None)
    pages page_back(shelf, order, sieve, size, gap=None, moment=None)
    pages gaps_of(columns, order, page)
    pages stretch(shelf, order, sieve, fore=None, hinder=None, moment=None)
    marks value_text(value)
    marks mark_text(mark)
    marks read_mark(columns, text)
    judges judged(columns, events)
    faults walk_fault(columns, order, sieve, events)
    texts show_row(row)
    texts show_order(order)
    texts show_sieve(sieve)
    texts show_columns(columns)
    texts read_row(columns, text)
    texts read_order(columns, text)
    texts read_sieve(columns, text)
    texts read_columns(text)
"""
CLASSES = """
    shelves Shelf(columns) put(key, worths) change(key, worths) take(key) has_columns() now()
        worths_at(key, moment=None) all_at(moment=None) standings_of(key) history()
    readers Reader(shelf, age) first(order, sieve, size) last(order, sieve, size) on(text, sieve, size)
        back(text, sieve, size)
    walks Walk(shelf, order, sieve, size) on() back() first() last() again() turn() sieve_by(sieve) size_by(size) stands()
    keepers Keeper(columns, order) feed(deed) all_rows() on(sieve, size, gap=None) back(sieve, size, gap=None)
    desks Desk() say(line)
"""


def signature_of(function, name):
    """As the interface writes it, without the object itself."""
    parameters = [part for part in inspect.signature(function).parameters.values() if part.name != "self"]
    return name + "(" + ", ".join(str(part) for part in parameters) + ")"


def module_of(name):
    return importlib.import_module("pageturns." + name)


class InterfaceTest(unittest.TestCase):
    def test_functions(self):
        for line in FUNCTIONS.strip().split("\n"):
            module, _, written = line.strip().partition(" ")
            name = written.partition("(")[0]
            self.assertEqual(signature_of(getattr(module_of(module), name), name), written)

    def test_classes(self):
        for line in CLASSES.strip().replace("\n        ", " ").split("\n"):
            module, _, rest = line.strip().partition(" ")
            written = [part + ")" for part in rest.split(")") if part.strip()]
            name = written[0].partition("(")[0]
            made = getattr(module_of(module), name)
            self.assertEqual(signature_of(made, name), written[0])
            for method in written[1:]:
                name = method.strip().partition("(")[0]
                self.assertEqual(signature_of(getattr(made, name), name), method.strip())


if __name__ == "__main__":
    unittest.main()
