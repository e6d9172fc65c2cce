"""Point 116: rows that are sent, as text."""

import random
import unittest

from leastlore.books import Book
from leastlore.errors import NoRow, NoText
from leastlore.frames import Frame
from leastlore.sending import put_in, rows_for
from leastlore.sendtext import read_rows, show_rows
from tests.pagemaking import MOST
from tests.test_books import atoms_of, some_findings, some_frame
from tests.test_sending import BOOK, FRAME, NONE, PARTS, row_by_hand, rows_by_hand
from tests.things import GREAT, check_fields, check_new_each_time, copied, refusal, strange_things

ROWS = [row_by_hand(FRAME, PARTS[:1]), row_by_hand(FRAME, PARTS[1:])]
LINES = [f"row b {ROWS[0][2]}", "x days 0 5 known 1", f"row a {ROWS[1][2]}", "x days 1 4 known 0", "y days 0 2 known 2",
         "z days 3 4 known 2", "x days 3 5 known 3"]
TEXT = "\n".join(LINES)

# Lines that are neither a row's first one nor a part's, of FRAME.
NO_LINES = [
    "", " ", "row", "row b", "row b ", "row b 1 1", " row b 1", "row b 1 ", "row  b 1", "row q 1", "row B 1", "row b 01",
    "row b -1", "row b x", f"row b {MOST + 1}", "row b " + "9" * 60, "rows b 1", "Row b 1", "b 1", "row 1 b",
    "row days 1", "x", "x days", "x days 0 1", "x days 0 1 known", "x days 0 1 known ", "x days 0 1 known 1 1",
    " x days 0 1 known 1", "x  days 0 1 known 1", "x days 0  1 known 1", "X days 0 1 known 1", "x y days 0 1 known 1",
    "b x days 0 1 known 1", "x day 0 1 known 1", "x days 0 1 know 1", "x days 1 1 known 1", "x days 2 1 known 1",
    "x days 0 6 known 1", "x days 5 6 known 1", "x days 0 1 known 4", "x days 00 1 known 1", "x days 0 01 known 1",
    "x days 0 1 known 01", "x days -1 1 known 1", "x days 0 1 known -1", "x days a 1 known 1", "x" * 13 + " days 0 1 known 1",
    " days 0 1 known 1", "x days 0 401 known 1", "x days 0 1 known 400", "x known 1 days 0 1", "x days 0 1 by 1", "x x x",
]


class Writing(unittest.TestCase):

    def test_written(self):
        self.assertEqual(show_rows(rows=ROWS), TEXT)
        self.assertEqual(show_rows([]), "")
        self.assertEqual(show_rows(ROWS[1:]), "\n".join(LINES[2:]))
        before = copied(ROWS)
        self.assertEqual(show_rows(ROWS), TEXT)
        self.assertEqual(ROWS, before)

    def test_written_and_read(self):
        chance = random.Random(116)
        for _ in range(100):
            frame = some_frame(chance)
            rows = rows_by_hand(frame, atoms_of(some_findings(chance, frame, 9)))
            text = show_rows(rows)
            told = read_rows(frame, text)
            self.assertEqual(told, rows)
            self.assertEqual(show_rows(told), text)
            self.assertEqual([(type(row), type(row[1])) for row in told], [(tuple, list)] * len(rows))
            self.assertEqual(put_in(Book(frame, []), told).parts(), [part for row in rows for part in row[1]])

    def test_values_that_are_own_words(self):
        rows = rows_for(Book(FRAME, [("a", "row", 0, 1, 0), ("a", "days", 0, 1, 1), ("a", "known", 0, 1, 2)]), [])
        self.assertEqual(show_rows(rows).split("\n")[1:],
                         ["row days 0 1 known 0", "days days 0 1 known 1", "known days 0 1 known 2"])
        self.assertEqual(read_rows(FRAME, show_rows(rows)), rows)
        frame = Frame(["row"], 5, 4)
        rows = rows_for(Book(frame, [("row", "row", 0, 5, 3)]), [])
        self.assertEqual(show_rows(rows), f"row row {rows[0][2]}\nrow days 0 5 known 3")
        self.assertEqual(read_rows(frame, show_rows(rows)), rows)


class Reading(unittest.TestCase):

    def test_read(self):
        self.assertEqual(read_rows(frame=FRAME, text=TEXT), ROWS)
        self.assertEqual(read_rows(FRAME, ""), [])
        check_new_each_time(self, read_rows, FRAME, TEXT)
        read_rows(FRAME, TEXT)[0][1].clear()
        self.assertEqual(read_rows(FRAME, TEXT), ROWS)

    def test_what_is_no_text(self):
        for thing in strange_things() + [TEXT.encode(), LINES, ROWS, tuple(LINES), NONE]:
            if not isinstance(thing, str):
                check_fields(self, NoText, {"at": 0}, read_rows, FRAME, thing)

    def test_the_first_line_that_cant_stand(self):
        for wrong in NO_LINES:
            for at in range(len(LINES) + 1):
                text = "\n".join(LINES[:at] + [wrong] + LINES[at:])
                if text:
                    check_fields(self, NoText, {"at": at}, read_rows, FRAME, text)
                if at < len(LINES):
                    text = "\n".join(LINES[:at] + [wrong] + LINES[at + 1:] + ["no line"])
                    check_fields(self, NoText, {"at": at}, read_rows, FRAME, text)
        check_fields(self, NoText, {"at": len(LINES)}, read_rows, FRAME, TEXT + "\n")
        check_fields(self, NoText, {"at": 0}, read_rows, FRAME, "\n" + TEXT)
        check_fields(self, NoText, {"at": 0}, read_rows, FRAME, "\n")

    def test_a_part_ahead_of_all_rows_and_rows_without_parts(self):
        check_fields(self, NoText, {"at": 0}, read_rows, FRAME, LINES[1])
        check_fields(self, NoText, {"at": 0}, read_rows, FRAME, "\n".join(LINES[1:]))
        check_fields(self, NoText, {"at": 1}, read_rows, FRAME, "\n".join([LINES[0], LINES[2], LINES[3]]))
        check_fields(self, NoText, {"at": 1}, read_rows, FRAME, "\n".join([LINES[0], *LINES]))
        check_fields(self, NoText, {"at": 3}, read_rows, FRAME, "\n".join([*LINES[:3], "row c 1", "x days 0 1 known 0"]))
        check_fields(self, NoText, {"at": 3}, read_rows, FRAME, "\n".join(LINES[:3]))
        check_fields(self, NoText, {"at": 1}, read_rows, FRAME, LINES[0])
        # Ahead of what is no row.
        check_fields(self, NoText, {"at": 3}, read_rows, FRAME, "\n".join(["row b 7", LINES[1], LINES[2]]))

    def test_what_are_no_rows(self):
        wrong = ("b", [PARTS[0]], ROWS[0][2] ^ 1)
        text = "\n".join([f"row b {wrong[2]}", LINES[1]] + LINES[2:])
        check_fields(self, NoRow, {"found": wrong}, read_rows, FRAME, text)
        for rows, at in ((ROWS[::-1], 1), ([ROWS[0], ROWS[0]], 1), ([ROWS[0], ROWS[1], ROWS[1]], 2),
                         ([ROWS[1], wrong], 1), ([wrong, ROWS[1], ROWS[0]], 0),
                         ([("a", PARTS[:0:-1], 5), wrong], 0), ([("a", [PARTS[1], PARTS[1]], 0)], 0),
                         ([("a", [("a", "x", 0, 1, 0), ("a", "x", 1, 2, 0)], MOST)], 0)):
            check_fields(self, NoRow, {"found": rows[at]}, read_rows, FRAME, show_rows(rows))
        error = refusal(self, NoRow, read_rows, FRAME, text)
        self.assertEqual((type(error.found), type(error.found[1])), (tuple, list))

    def test_of_another_frame(self):
        text = show_rows(rows_for(Book(GREAT, [("ka", "x", 0, 400, 399), ("kl", "y", 399, 400, 0)]), []))
        self.assertEqual(show_rows(read_rows(GREAT, text)), text)
        check_fields(self, NoText, {"at": 0}, read_rows, FRAME, text)
        check_fields(self, NoText, {"at": 1}, read_rows, Frame(GREAT.key_names(), 399, 400), text)
        check_fields(self, NoText, {"at": 1}, read_rows, Frame(GREAT.key_names(), 400, 399), text)
        mixed = Frame(GREAT.key_names()[::-1], 400, 400)
        self.assertEqual(refusal(self, NoRow, read_rows, mixed, text).found[0], "ka")

    def test_the_book_again(self):
        self.assertEqual(put_in(NONE, read_rows(FRAME, TEXT)).told(), BOOK.told())
