import itertools
import random
import unittest

from helper import BY_PRICE, EVERY, GOODS, CheckTest, any_deed, other_things
from pageturns.deeds import do_deed
from pageturns.desks import Desk
from pageturns.errors import (
    BadColumns, BadOrder, BadRow, BadSieve, BadSize, HasKey, NoKey, NoLine, NoMark, NoMoment, NoText, OldMark,
)
from pageturns.readers import Reader
from pageturns.shelves import Shelf
from pageturns.texts import show_row

PUTS = [
    'put pen #5 "acme', 'put ink #7 "acme', 'put cap - "bolt', "put bag #5 -", 'put box #5 "acme', "put rod - -",
    'put a2 #7 "', 'put a10 #-7 "acme=bco',
]
EIGHTEEN = "9" * 18
ORDER = "price down last key up"
MARK = "mark 8 price down last key up at #5 box behind"
# Each sort of line, right, with what is told of a desk of eight rows.
LINES = [
    "columns price number maker word", "columns ", "age 5", "put new #1 -", "change pen #6 -", "take pen", "now",
    "first 2 | " + ORDER + " | ( every )", "last 2 | key up | ( every )", "on 2 | ( every ) | " + MARK,
    "back 2 | ( every ) | " + MARK, "plain key up | ( every )", "plain 3 | key up | ( every )", "count ( every )",
    "count 3 | ( every )",
]


def some_desk():
    """By price down, None last: a2 ink bag box pen a10 cap rod. Now is 8."""
    desk = Desk()
    for line in ["columns price number maker word"] + PUTS:
        desk.say(line)
    return desk


def mark_at(moment, words):
    return "mark " + str(moment) + " " + ORDER + " at " + words


class DeskTest(CheckTest):
    def hold(self, desk, line, *answer):
        with self.subTest(line=line):
            told = desk.say(line)
            self.assertIs(type(told), str)
            self.assertEqual(told, "\n".join(answer))

    def bad(self, error, *lines):
        """Refused by a desk of eight rows, which stays as it was."""
        desk = some_desk()
        before = self.state_of(desk)
        for line in lines:
            self.hold_bad(error, desk.say, line)
        self.assertEqual(self.state_of(desk), before)

    def state_of(self, desk):
        pages = [desk.say(line) for line in LINES[7:11]]
        return [desk.say("now"), desk.say("plain key up | ( every )")] + pages


class RightTest(DeskTest):
    def test_columns_and_deeds(self):
        desk = Desk()
        self.hold(desk, "columns price number maker word", "ok")
        self.hold(desk, "now", "0")
        self.hold(desk, 'put pen #5 "acme', "ok")
        self.hold(desk, "put ink - -", "ok")
        self.hold(desk, 'change ink #-7 "a=bb=e', "ok")
        self.hold(desk, "now", "3")
        self.hold(desk, "plain key up | ( every )", 'ink #-7 "a=bb=e', 'pen #5 "acme')
        self.hold(desk, "take pen", "ok")
        self.hold(desk, "now", "4")
        self.hold(desk, "plain key up | ( every )", 'ink #-7 "a=bb=e')

    def test_no_columns(self):
        desk = Desk()
        self.hold(desk, "columns ", "ok")
        self.hold(desk, "put b", "ok")
        self.hold(desk, "put a", "ok")
        self.hold(desk, "plain key up | ( every )", "a", "b")
        self.hold(
            desk, "first 1 | key down | ( every )", "0 1 1", "b",
            "back mark 2 key down at b ahead", "on mark 2 key down at b behind",
        )

    def test_first_and_last(self):
        desk = some_desk()
        self.hold(
            desk, "first 3 | price down last key up | ( every )", "0 3 5", 'a2 #7 "', 'ink #7 "acme', "bag #5 -",
            "back mark 8 price down last key up at #7 a2 ahead", "on mark 8 price down last key up at #5 bag behind",
        )
        self.hold(
            desk, "last 2 | price down last key up | ( every )", "6 2 0", 'cap - "bolt', "rod - -",
            "back mark 8 price down last key up at - cap ahead", "on mark 8 price down last key up at - rod behind",
        )
        self.hold(
            desk, 'first 1000 | maker down first key down | ( begins maker "acme=b )', "0 1 0", 'a10 #-7 "acme=bco',
            'back mark 8 maker down first key down at "acme=bco a10 ahead',
            'on mark 8 maker down first key down at "acme=bco a10 behind',
        )

    def test_pages_without_rows(self):
        desk = some_desk()
        for word in ("first", "last"):
            self.hold(desk, word + " 3 | key up | ( key )", "0 0 0", "back none", "on none")
        self.hold(
            desk, "on 3 | ( every ) | " + mark_at(2, "- rod behind"), "8 0 0",
            "back " + mark_at(8, "- rod behind"), "on " + mark_at(8, "- rod behind"),
        )
        self.hold(
            desk, "back 3 | ( every ) | " + mark_at(2, "#8 a ahead"), "0 0 8",
            "back " + mark_at(8, "#8 a ahead"), "on " + mark_at(8, "#8 a ahead"),
        )

    def test_on_and_back(self):
        desk = some_desk()
        self.hold(
            desk, "on 2 | ( every ) | " + mark_at(8, "#5 bag behind"), "3 2 3", 'box #5 "acme', 'pen #5 "acme',
            "back " + mark_at(8, "#5 box ahead"), "on " + mark_at(8, "#5 pen behind"),
        )
        self.hold(
            desk, "back 2 | ( is price #7 ) | " + mark_at(0, "#5 bag behind"), "0 2 0", 'a2 #7 "', 'ink #7 "acme',
            "back " + mark_at(8, "#7 a2 ahead"), "on " + mark_at(8, "#7 ink behind"),
        )
        desk.say("take box")
        self.hold(
            desk, "on 1 | ( every ) | " + mark_at(8, "#5 box behind"), "3 1 3", 'pen #5 "acme',
            "back " + mark_at(9, "#5 pen ahead"), "on " + mark_at(9, "#5 pen behind"),
        )

    def test_plain_and_count(self):
        desk = some_desk()
        desk.say("take pen")
        self.hold(desk, "plain key down | ( is price #5 )", 'box #5 "acme', "bag #5 -")
        self.hold(desk, "plain 8 | key down | ( is price #5 )", 'pen #5 "acme', 'box #5 "acme', "bag #5 -")
        self.hold(desk, "plain 9 | key down | ( is price #5 )", 'box #5 "acme', "bag #5 -")
        self.hold(desk, "plain 1 | key up | ( every )", 'pen #5 "acme')
        self.hold(desk, "plain 0 | key up | ( every )", "")
        self.hold(desk, "plain key up | ( key )", "")
        self.hold(desk, "count ( every )", "7")
        self.hold(desk, "count 8 | ( every )", "8")
        self.hold(desk, "count 0 | ( every )", "0")
        self.hold(desk, "count ( or ( is price - ) ( key pen ) )", "2")
        self.hold(desk, "count 8 | ( or ( is price - ) ( key pen ) )", "3")

    def test_words_that_hold_what_parts_a_line(self):
        desk = Desk()
        desk.say("columns note word")
        self.hold(desk, 'put a "a=b|=bb', "ok")
        self.hold(desk, 'put b "|', "ok")
        self.hold(desk, 'plain key up | ( is note "a=b|=bb )', 'a "a=b|=bb')
        self.hold(desk, 'count ( is note "| )', "1")


class AgeTest(DeskTest):
    def hold_oldest(self, desk, moment):
        """Marks of the moment, and none of the one ahead of it, are good."""
        desk.say("on 1 | ( every ) | mark " + str(moment) + " key up at a ahead")
        desk.say("back 1 | ( every ) | mark " + str(moment) + " key up at a ahead")
        if moment > 0:
            for word in ("on", "back"):
                line = word + " 1 | ( every ) | mark " + str(moment - 1) + " key up at a ahead"
                self.hold_bad(OldMark, desk.say, line)

    def test_other_ages(self):
        desk = some_desk()
        self.hold_oldest(desk, 0)
        for age in (5, 0, 1, 8):
            self.hold(desk, "age " + str(age), "ok")
            self.hold_oldest(desk, 8 - age)
        self.hold(desk, "age " + EIGHTEEN, "ok")
        self.hold_oldest(desk, 0)

    def test_a_new_shelf_has_the_age_1000_anew(self):
        desk = some_desk()
        desk.say("age 0")
        self.hold_oldest(desk, 8)
        self.hold(desk, "columns ", "ok")
        desk.say("put a")
        for _ in range(1000):
            desk.say("change a")
        self.hold_oldest(desk, 1)

    def test_a_moment_above_now(self):
        for moment in (9, 10, EIGHTEEN):
            self.bad(NoMark, "on 1 | ( every ) | " + mark_at(moment, "#5 box ahead"))
            self.bad(NoMark, "back 1 | ( every ) | " + mark_at(moment, "#5 box ahead"))

    def test_an_age_changes_nothing_else(self):
        desk = some_desk()
        before = self.state_of(desk)
        desk.say("age 8")
        self.assertEqual(self.state_of(desk), before)


class LineTest(DeskTest):
    def test_what_is_no_text(self):
        self.bad(NoLine, *([None, 5, (), ("now",), b"now"] + other_things()))
        for thing in [None, 5, ()] + other_things():
            self.hold_bad(NoLine, Desk().say, thing)

    def test_without_a_shelf(self):
        for line in LINES[2:] + ["age x", "put", "", "x", "put ( -", "count 9 | x"]:
            self.hold_bad(NoLine, Desk().say, line)
        desk = Desk()
        for line, error in (("columns", NoLine), ("columns price", NoText), ("columns price text", BadColumns)):
            self.hold_bad(error, desk.say, line)
            self.hold_bad(NoLine, desk.say, "now")
        self.hold(desk, "columns ", "ok")
        self.hold(desk, "now", "0")

    def test_other_words_ahead(self):
        self.bad(
            NoLine, "", " ", "  ", "x", "Now", "NOW", "now?", "column price number", "Columns price number", "ages 5",
            "puts new #1 -", "Put new #1 -", "drop pen", "next 2 | ( every ) | " + MARK, "stretch key up | ( every )",
            "counts ( every )", "none", "mark", "ok", " now", "\nnow", "now\n", "( every )", " | ", "|",
        )
        for line in LINES:
            self.bad(NoLine, "x" + line, " " + line, line.replace(" ", "x", 1) if " " in line else line + "x")
            self.bad(NoLine, line.upper(), line.title())

    def test_something_behind_now(self):
        self.bad(NoLine, "now ", "now 8", "now  ", "now | ", "now | 8", "now |", " now")

    def test_without_the_blank(self):
        for word in "columns age put change take first last on back plain count".split():
            self.bad(NoLine, word, word + "\n")
        self.bad(NoLine, "age5", "takepen", "columns\nprice number", "take\npen")

    def test_a_part_more(self):
        for line in LINES:
            if line.split()[0] in ("plain", "count") and line.split()[1] != "3":
                # With one part more these are lines, with the text that is not written so ahead.
                self.bad(NoLine, line + " | x | x")
                self.bad(NoText, line + " | x", line + " | ")
            else:
                self.bad(NoLine, line + " | x", line + " | ", line + " | x | x", line + " |  | ")
        self.bad(NoLine, "put new | #1 -", "put new #1 | -", "take pen | ", "take | pen", "age 5 | 5", "age | 5")
        self.bad(NoLine, "columns price | number", "columns | ", "count | ( every )", "plain | key up | ( every )")
        self.bad(NoLine, "plain 3 | key up | ( every ) | ( every )", "count 3 | ( every ) | ( every )")

    def test_a_part_fewer(self):
        self.bad(
            NoLine, "first 2", "first 2 | key up", "first key up | ( every )", "first ( every )", "last 2",
            "last 2 | key up", "on 2", "on 2 | ( every )", "on " + MARK, "back 2 | " + MARK, "plain key up",
            "plain ( every )", "plain 3", "first ", "last ", "on ", "back ", "plain ",
        )
        # What is left of these is a line, but its texts are not written so.
        self.bad(NoText, "count 3", "plain 3 | ( every )", "plain 3 | key up", "count key up", "count ")

    def test_other_signs_in_the_place_of_what_parts(self):
        for line in LINES[7:11]:
            for parting in ("|", " |", "| ", " || ", " / ", "\n|\n", "  ", " "):
                self.bad(NoLine, line.replace(" | ", parting))
        self.bad(NoLine, "plain key up|( every )", "plain key up ( every )", "plain key up |( every )")
        self.bad(NoText, "count 3| ( every )", "count 3 |( every )", "count 3 ( every )")

    def test_blanks_more_belong_to_the_parts(self):
        self.bad(NoText, "age  5", "age 5 ", "age ", "age 5 5", "columns  price number")
        self.bad(NoText, "put  new #1 -", "put new  #1 -", "put new #1 - ")
        self.bad(BadRow, "take  pen", "take pen ", "take ", "take pen pen", "put  #1 -")
        self.bad(BadColumns, "columns  ")
        for line in LINES[7:9] + LINES[11:]:
            for place, sign in enumerate(line):
                if sign == " ":
                    self.bad(NoText, line[:place] + " " + line[place:])
            self.bad(NoText, line + " ")
        for line in LINES[9:11]:
            self.bad(NoMark, line + " ", line.replace("mark", " mark"), line.replace("mark ", "mark  "))
            self.bad(NoText, line.replace(" 2", "  2"), line.replace("2 ", "2  "), line.replace("every )", "every ) "))


class PartTest(DeskTest):
    NO_NUMBERS = ("", "x", "-1", "-0", "+1", "01", "00", "1.0", "#1", "1_0", " ", "1" + "0" * 18, "1\n", "( every )")

    def test_numbers_that_are_none(self):
        for number in self.NO_NUMBERS:
            self.bad(
                NoText, "age " + number, "first " + number + " | key up | ( every )",
                "last " + number + " | key up | ( every )", "on " + number + " | ( every ) | " + MARK,
                "back " + number + " | ( every ) | " + MARK, "plain " + number + " | key up | ( every )",
                "count " + number + " | ( every )",
            )

    def test_sizes(self):
        for number in ("0", "1001", EIGHTEEN, "1" + "0" * 17):
            self.bad(
                BadSize, "first " + number + " | key up | ( every )", "last " + number + " | key up | ( every )",
                "on " + number + " | ( every ) | " + MARK, "back " + number + " | ( every ) | " + MARK,
            )
        desk = some_desk()
        for number, many in (("1", "0 1 7"), ("1000", "0 8 0")):
            self.assertTrue(desk.say("first " + number + " | key up | ( every )").startswith(many + "\n"))

    def test_moments(self):
        for number in ("9", "10", EIGHTEEN):
            self.bad(NoMoment, "plain " + number + " | key up | ( every )", "count " + number + " | ( every )")

    def test_rows(self):
        for word in ("put", "change"):
            for row in ("( - -", "new 1 -", "new #1 - x", "new #01 -", 'new #1 "=', 'new #1 "' + "a" * 41, ") #1"):
                self.bad(NoText, word + " " + row)
            for row in ("", "new", "new #1", "new #1 - -", 'new "a #1', "New #1 -", "- #1 -", " #1 -", "n\n #1 -"):
                self.bad(BadRow, word + " " + row)
        self.bad(HasKey, "put pen #5 \"acme", "put pen - -")
        self.bad(NoKey, "change new #1 -", "take new", "take key")
        self.bad(BadRow, "take Pen", "take 2pen", "take ( )", "take pen\n", 'take "pen', "take abcdefghijklm")

    def test_columns(self):
        self.bad(NoText, "columns price", "columns price number ", "columns ( number", "columns price number maker")
        self.bad(
            BadColumns, "columns price text", "columns Price number", "columns a word a word", "columns \n number",
            "columns " + " ".join(name + " word" for name in "abcdefghi"),
        )

    def test_orders_and_sieves(self):
        for order in ("", "up", "key", "price key up", "( key up )", "key up key", "price down last keys up"):
            self.bad(
                NoText, "first 2 | " + order + " | ( every )", "last 2 | " + order + " | ( every )",
                "plain " + order + " | ( every )", "plain 3 | " + order + " | ( every )",
            )
        for order in ("key Up", "cost up last key up", "price up last price up last key up", "price up end key up"):
            self.bad(
                BadOrder, "first 2 | " + order + " | ( every )", "last 2 | " + order + " | ( every )",
                "plain " + order + " | ( every )", "plain 3 | " + order + " | ( every )",
            )
        for sieve, error in (
            ("", NoText), ("every", NoText), ("( every", NoText), ("( every ) )", NoText), ("( is price 5 )", NoText),
            ("( is cost #5 )", BadSieve), ("( key A )", BadSieve), ("( begins price - )", BadSieve),
        ):
            self.bad(
                error, "first 2 | key up | " + sieve, "last 2 | key up | " + sieve, "on 2 | " + sieve + " | " + MARK,
                "back 2 | " + sieve + " | " + MARK, "plain key up | " + sieve, "plain 3 | key up | " + sieve,
                "count " + sieve, "count 3 | " + sieve,
            )

    def test_marks(self):
        for mark in (
            "", "none", "mark", MARK + " ", " " + MARK, MARK.replace("price", "cost"), MARK.replace("#5", '"5'),
            MARK.replace("8", "08"), MARK.replace("8", "9"), MARK.replace("box", "Box"), "( every )", "key up",
        ):
            self.bad(NoMark, "on 2 | ( every ) | " + mark, "back 2 | ( every ) | " + mark)

    def hold_first_of_parts(self, words, parts):
        """For each part some texts, each with the error that it is due, or None: the first one of all is raised."""
        ranks = (NoText, BadOrder, BadSieve, NoMark, OldMark, BadSize, NoMoment)
        desk = some_desk()
        desk.say("age 4")
        for chosen in itertools.product(*parts):
            errors = [error for error, text in chosen if error is not None]
            for word in words:
                line = word + " " + " | ".join(text for error, text in chosen)
                if errors:
                    self.hold_bad(min(errors, key=ranks.index), desk.say, line)
                else:
                    desk.say(line)

    def test_of_several_the_first_one_is_raised(self):
        sizes = ((None, "2"), (NoText, "02"), (BadSize, "0"))
        orders = ((None, ORDER), (NoText, "key"), (BadOrder, "cost up last key up"))
        sieves = ((None, "( every )"), (NoText, "every"), (BadSieve, "( is cost #5 )"))
        marks = (
            (None, MARK), (NoMark, "x"), (NoMark, mark_at(9, "#5 box ahead")), (OldMark, mark_at(3, "#5 box ahead")),
        )
        moments = ((None, "3"), (NoText, "x"), (NoMoment, "9"))
        self.hold_first_of_parts(("first", "last"), (sizes, orders, sieves))
        self.hold_first_of_parts(("on", "back"), (sizes, sieves, marks))
        self.hold_first_of_parts(("plain",), (orders, sieves))
        self.hold_first_of_parts(("plain",), (moments, orders, sieves))
        self.hold_first_of_parts(("count",), (moments, sieves))

    def test_of_several_in_a_row_the_first_one_is_raised(self):
        self.bad(NoText, "put pen 5 -", "put pen #5 x", "change New 5", "put Pen #5 )")
        self.bad(BadRow, "put pen #5", "change new #5", "put Pen #5 -")

    def test_what_is_refused_changes_nothing(self):
        desk = some_desk()
        desk.say("age 3")
        for line, error in (
            ("columns price", NoText), ("columns price text", BadColumns), ("age x", NoText), ("columns", NoLine),
            ("put pen - -", HasKey), ("change new - -", NoKey), ("take new", NoKey),
            ("first 0 | key up | ( every )", BadSize),
        ):
            self.hold_bad(error, desk.say, line)
        self.hold(desk, "now", "8")
        self.hold(desk, "count ( every )", "8")
        # The age is 3 still.
        desk.say("on 1 | ( every ) | " + mark_at(5, "#5 box ahead"))
        self.hold_bad(OldMark, desk.say, "on 1 | ( every ) | " + mark_at(4, "#5 box ahead"))


class WholeTest(DeskTest):
    def test_two_desks(self):
        one = some_desk()
        other = Desk()
        other.say("columns ")
        other.say("put a")
        self.hold(one, "now", "8")
        self.hold(other, "now", "1")

    def test_a_new_shelf_holds_nothing_of_the_old_one(self):
        desk = some_desk()
        self.hold(desk, "columns price number", "ok")
        self.hold(desk, "now", "0")
        self.hold(desk, "count ( every )", "0")
        self.hold(desk, "put pen #5", "ok")

    def test_lines_that_only_tell_change_nothing(self):
        desk = some_desk()
        for line in LINES[6:]:
            self.assertEqual(desk.say(line), desk.say(line))
        self.hold(desk, "now", "8")

    def page_lines(self, page):
        lines = [" ".join(str(number) for number in (page[1], len(page[0]), page[2]))]
        lines += [show_row(row) for row in page[0]]
        return lines + ["back " + (page[3] or "none"), "on " + (page[4] or "none")]

    def test_a_desk_tells_as_the_shelf_and_its_reader(self):
        chance = random.Random(19)
        desk = Desk()
        desk.say("columns price number maker word")
        desk.say("age 6")
        shelf = Shelf(GOODS)
        reader = Reader(shelf, 6)
        marks = []
        for _ in range(300):
            deed = any_deed(chance, shelf, tuple("abcdefgh"))
            do_deed(shelf, deed)
            self.hold(desk, deed[0] + " " + (deed[1] if deed[0] == "take" else show_row(deed[1:])), "ok")
            size = chance.randint(1, 4)
            page = reader.first(BY_PRICE, EVERY, size)
            self.hold(desk, "first " + str(size) + " | " + ORDER + " | ( every )", *self.page_lines(page))
            marks = (marks + [mark for mark in page[3:] if mark is not None])[-8:]
            if not marks:
                continue
            mark = chance.choice(marks)
            line = str(size) + " | ( every ) | " + mark
            try:
                page = reader.on(mark, EVERY, size)
            except OldMark:
                self.hold_bad(OldMark, desk.say, "on " + line)
            else:
                self.hold(desk, "on " + line, *self.page_lines(page))
                self.hold(desk, "back " + line, *self.page_lines(reader.back(mark, EVERY, size)))

    def test_by_its_own_marks_from_end_to_end(self):
        desk = some_desk()
        rows = []
        answer = desk.say("first 3 | " + ORDER + " | ( every )").split("\n")
        while len(answer) > 3:
            rows += answer[1:-2]
            answer = desk.say("on 2 | ( every ) | " + answer[-1].partition(" ")[2]).split("\n")
        self.assertEqual(rows, desk.say("plain " + ORDER + " | ( every )").split("\n"))
        rows = []
        answer = desk.say("last 3 | " + ORDER + " | ( every )").split("\n")
        while len(answer) > 3:
            rows = answer[1:-2] + rows
            answer = desk.say("back 2 | ( every ) | " + answer[-2].partition(" ")[2]).split("\n")
        self.assertEqual(rows, desk.say("plain " + ORDER + " | ( every )").split("\n"))


if __name__ == "__main__":
    unittest.main()
