"""Points 36 and 37: books as text."""

import random
import unittest

from leastlore.books import Book, same_book
from leastlore.booktext import read_book, show_book
from leastlore.errors import Clash, NoText
from leastlore.frames import Frame
from tests.test_books import cut_up, some_findings, some_frame
from tests.things import GREAT, check_fields, strange_things

FIRST = "frame a bb days 12 turns 10"
GOOD = "bb 7x days 0 5 known 3"
BAD_FIRST = [
    "", "frame", "frame days 12 turns 10", "frame a bb days 12 turns", "frame a bb days 12", "a bb days 12 turns 10",
    "frame a bb turns 10 days 12", "frame a a days 12 turns 10", "frame a  bb days 12 turns 10",
    " frame a bb days 12 turns 10", "frame a bb days 12 turns 10 ", "frame a bb days 012 turns 10",
    "frame a bb days 12 turns 010", "frame a bb days 0 turns 10", "frame a bb days 12 turns 0",
    "frame a bb days 401 turns 10", "frame a bb days 12 turns 401", "frame a days days 12 turns 10",
    "frame a abcdefghi days 12 turns 10", "frame A days 12 turns 10", "Frame a days 12 turns 10",
    "frame a days 12 turn 10", "frame a day 12 turns 10", "frame a days x turns 10", "frame a days 12 turns x",
    "frame a days +1 turns 1", "frame a days 1 turns " + "1" * 5000, "frame a days 12 turns 10 known 3",
    "frame a b c d e f g h i j k l m days 1 turns 1", "days 12 turns 10", "turns 10", "frame turns 10", "frame a",
    "frame frame days 1 turns 1", "frame a 7 days 12 turns 10", "find a bb days 12 turns 10", GOOD,
]
BAD_ROWS = [
    "", " ", "bb", "bb 7x days 0 5 known", "bb 7x days 0 5", "cc 7x days 0 5 known 3", "bb  days 0 5 known 3",
    "bb 7X days 0 5 known 3", "bb 7x day 0 5 known 3", "bb 7x days 0 5 knows 3", "bb 7x days 00 5 known 3",
    "bb 7x days 0 05 known 3", "bb 7x days 0 5 known 03", "bb 7x days 5 5 known 3", "bb 7x days 6 5 known 3",
    "bb 7x days 0 13 known 3", "bb 7x days 0 5 known 10", "bb 7x days -1 5 known 3", "bb 7x days 0 5 known 3 ",
    " bb 7x days 0 5 known 3", "bb  7x days 0 5 known 3", "bb 7x days 0 5  known 3", "bb 7x days 0 5 known 3 3",
    "bb 1234567890123 days 0 5 known 3", "7x bb days 0 5 known 3", "bb 7x known 3 days 0 5", "bb 7x days 0 5 known x",
    "bb 7x days 0 5 known " + "3" * 5000, "bb 7x days 0 \u0665 known 3", "bb 7x days 0 5 known 3\r", FIRST,
    "bb 7x days 0 400 known 3", "bb 7x days 0 5 known 400", "bb 7_ days 0 5 known 3", "bb days days 0 5 3",
]


class Showing(unittest.TestCase):

    def test_the_two_rows_of_the_document(self):
        book = Book(Frame(["a", "bb"], 12, 10), [("bb", "7x", 0, 5, 3)])
        self.assertEqual(show_book(book=book), FIRST + "\n" + GOOD)
        self.assertEqual(show_book(Book(book.frame, [])), FIRST)

    def test_rows_stand_in_the_order_of_the_parts(self):
        frame = Frame(["b", "a"], 5, 4)
        book = Book(frame, [("a", "0", 4, 5, 3), ("a", "days", 0, 1, 0), ("b", "known", 2, 3, 0)])
        self.assertEqual(show_book(book).split("\n"), [
            "frame b a days 5 turns 4", "b known days 2 3 known 0", "a days days 0 1 known 0", "a 0 days 4 5 known 3"])

    def test_written_and_read(self):
        chance = random.Random(39)
        for _ in range(100):
            frame = some_frame(chance)
            book = Book(frame, some_findings(chance, frame, 9))
            text = show_book(book)
            again = read_book(text)
            self.assertEqual(again.told(), book.told())
            self.assertIs(same_book(again, book), True)
            self.assertEqual(show_book(again), text)
            self.assertEqual(show_book(Book(frame, cut_up(chance, book.parts()))), text)

    def test_keys_that_begin_with_one_another_or_with_own_words(self):
        frame = Frame(["a", "aa", "aaa", "nows", "dayss", "framed", "knownx"], 3, 3)
        book = Book(frame, [(key, value, at, at + 1, 2 - at) for key in frame.key_names()
                            for at, value in enumerate(["0", "days", "a"])])
        text = show_book(book)
        self.assertEqual(text.split("\n")[0], "frame a aa aaa nows dayss framed knownx days 3 turns 3")
        self.assertEqual(len(text.split("\n")), 22)
        self.assertEqual(read_book(text).told(), book.told())
        self.assertEqual([book.read((key, 0, 2)) for key in frame.key_names()], [("0", 2)] * 7)

    def test_a_great_frame(self):
        book = Book(GREAT, some_findings(random.Random(40), GREAT, 320) + [("kl", "9" * 12, 399, 400, 399)])
        self.assertEqual(read_book(show_book(book)).told(), book.told())


class Reading(unittest.TestCase):

    def test_in_any_order_cut_and_told_again(self):
        rows = [FIRST, "bb 7x days 3 5 known 3", "a days days 0 12 known 0", "bb 7x days 0 4 known 3",
                "a days days 2 3 known 0"]
        book = read_book(text="\n".join(rows))
        self.assertEqual(book.parts(), [("a", "days", 0, 12, 0), ("bb", "7x", 0, 5, 3)])
        self.assertEqual(book.frame.told(), (("a", "bb"), 12, 10))
        self.assertEqual(read_book(FIRST).parts(), [])

    def test_what_is_no_text(self):
        for thing in strange_things() + [[FIRST], (FIRST,), 0, Book(GREAT, [])]:
            if not isinstance(thing, str):
                check_fields(self, NoText, {"at": 0}, read_book, thing)

    def test_the_first_row(self):
        for row in BAD_FIRST:
            for text in (row, row + "\n" + GOOD, row + "\nx\n"):
                check_fields(self, NoText, {"at": 0}, read_book, text)
        for text in ("frame a days 1 turns 1", "frame a days 400 turns 400",
                     "frame a b c d e f g h i j k l days 1 turns 1"):
            self.assertEqual(show_book(read_book(text)), text)

    def test_the_other_rows(self):
        for row in BAD_ROWS:
            check_fields(self, NoText, {"at": 1}, read_book, FIRST + "\n" + row)
            check_fields(self, NoText, {"at": 1}, read_book, "\n".join([FIRST, row, GOOD, row]))
            check_fields(self, NoText, {"at": 3}, read_book, "\n".join([FIRST, GOOD, GOOD, row, GOOD]))

    def test_line_feeds_at_an_end(self):
        check_fields(self, NoText, {"at": 1}, read_book, FIRST + "\n")
        check_fields(self, NoText, {"at": 2}, read_book, FIRST + "\n" + GOOD + "\n")
        check_fields(self, NoText, {"at": 0}, read_book, "\n" + FIRST)
        check_fields(self, NoText, {"at": 0}, read_book, "\n")

    def test_clashes_behind_all_rows_that_cannot_stand(self):
        rows = [FIRST, "a x days 0 2 known 1", GOOD, "a y days 3 4 known 1", "a y days 1 4 known 1"]
        check_fields(self, Clash, {"at": 3, "other": 0}, read_book, "\n".join(rows))
        check_fields(self, Clash, {"at": 1, "other": 0}, read_book, "\n".join([rows[0], rows[1], rows[4]]))
        check_fields(self, NoText, {"at": 5}, read_book, "\n".join(rows + ["x"]))
