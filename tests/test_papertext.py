"""Points 76 and 77: papers as text."""

import random
import unittest

from leastlore.books import Book
from leastlore.errors import NoPaper, NoText
from leastlore.papers import paper_of
from leastlore.papertext import read_paper, show_paper
from tests.test_books import some_findings, some_frame
from tests.test_boxsets import tidy_boxes
from tests.test_papers import COVER, KEPT, LEFT, NO_ROWS, PIECE, cut_finer
from tests.things import GREAT, check_fields, check_found, check_new_each_time, strange_things

KEPT_TEXT = "kept a red days 0 2 known 5 at 7 5"
LEFT_TEXT = "left a red days 2 9 known 5 by blue days 2 4 known 6 by red days 4 9 known 8"
BAD_ROWS = [
    "", " ", "kept", "left", "kept ", "keep a red days 0 2 known 5 at 7 5", "Kept a red days 0 2 known 5 at 7 5",
    "a red days 0 2 known 5 at 7 5", " kept a red days 0 2 known 5 at 7 5", "kept a red days 0 2 known 5 at 7 5 ",
    "kept  a red days 0 2 known 5 at 7 5", "kept a red days 0 2 known 5  at 7 5", "kept a red days 0 2 known 5 at  7 5",
    "kept a red days 0 2 known 5 at 7  5", "kept a red days 0 2 known 5", "kept a red days 0 2 known 5 at",
    "kept a red days 0 2 known 5 at ", "kept a red days 0 2 known 5 at 7", "kept a red days 0 2 known 5 at 7 5 5",
    "kept a red days 0 2 known 5 7 5", "kept a red days 0 2 known 5 by 7 5", "kept a red days 0 2 known 5 at at 7 5",
    "kept a red days 0 2 known 5 at 7 at 5", "kept a red days 0 2 at known 5 7 5", "kept at a red days 0 2 known 5 7 5",
    "kept a red days 0 2 known 5 at 07 5", "kept a red days 0 2 known 5 at 7 05", "kept a red days 0 2 known 5 at 400 5",
    "kept a red days 0 2 known 5 at 7 -1", "kept a red days 0 2 known 5 at 7 x", "kept a red days 00 2 known 5 at 7 5",
    "kept a red days 0 02 known 5 at 7 5", "kept a red days 0 2 known 05 at 7 5", "kept a red days 2 2 known 5 at",
    "kept a red days 3 2 known 5 at 7", "kept a red days 0 401 known 5 at 7", "kept a red days 0 2 known 400 at 7 5",
    "kept A red days 0 2 known 5 at 7 5", "kept a Red days 0 2 known 5 at 7 5", "kept now red days 0 2 known 5 at 7 5",
    "kept a days 0 2 known 5 at 7 5", "kept red days 0 2 known 5 at 7 5", "kept a red 0 2 known 5 at 7 5",
    "kept a red days 0 2 5 at 7 5", "kept a red day 0 2 known 5 at 7 5", "kept a red days 0 2 know 5 at 7 5",
    "kept a red days 0 2 known 5 at 7 5 by blue days 2 4 known 6", "kept a red days 0 2 known 5 at 7 \u0665",
    "kept a red days 0 2 known 5 by blue days 2 4 known 6", "left a red days 2 9 known 5 ", "left a red days 2 9 known",
    "left a red days 2 9 known 5 by", "left a red days 2 9 known 5 by ", "left a red days 2 9 known 5 at 7",
    "left a red days 2 9 known 5 by blue days 2 4 known", "left a red days 2 9 known 5 by blue days 2 4 known 6 ",
    "left a red days 2 9 known 5 by a blue days 2 4 known 6", "left a red days 2 9 known 5 blue days 2 4 known 6",
    "left a red days 2 9 known 5 by blue days 2 4 known 6 red days 4 9 known 8", "left  a red days 2 9 known 5",
    "left a red days 2 9 known 5 by blue days 2 4 known 6 by", "left a red days 2 9 known 5 by blue days 2 4 known 6 at",
    "left a red days 2 9 known 5 by blue days 4 4 known 6", "left a red days 2 9 known 5 by blue days 2 401 known 6",
    "left a red days 2 9 known 5 by blue days 2 4 known 400", "left a red days 2 9 known 5 by blue days 02 4 known 6",
    "left a red days 2 9 known 5 by Blue days 2 4 known 6", "left a red days 2 9 known 5 by blue days 2 4 known 06",
    "left a red days 2 9 known 5 by by blue days 2 4 known 6", "left a red days 2 9 known 5  by blue days 2 4 known 6",
    "left a red days 2 9 known 5 By blue days 2 4 known 6", "left a red days 2 9 by blue days 2 4 known 6 known 5",
    "left a red days 2 9 known 5 by blue days 2 4 known 6 6", "left a red days 2 9 known 5 by  days 2 4 known 6",
    "left a red days 2 9 known 5 by blue days 2 4 known " + "6" * 5000, "left a red days 2 9 known 5\r",
]


class Written(unittest.TestCase):

    def check(self, paper):
        text = show_paper(paper=paper)
        again = read_paper(text=text)
        self.assertEqual(repr(again), repr(paper))
        self.assertEqual(show_paper(again), text)

    def test_the_rows_of_the_document(self):
        self.assertEqual(show_paper([KEPT, LEFT]), KEPT_TEXT + "\n" + LEFT_TEXT)
        self.assertEqual(read_paper(KEPT_TEXT + "\n" + LEFT_TEXT), [KEPT, LEFT])
        self.assertEqual(show_paper([]), "")
        self.assertEqual(read_paper(""), [])
        self.assertEqual(show_paper([("left", PIECE, ())]), "left a red days 0 2 known 5")

    def test_written_and_read(self):
        chance = random.Random(76)
        for _ in range(100):
            frame = some_frame(chance)
            paper = paper_of(Book(frame, some_findings(chance, frame, 9)), tidy_boxes(chance, frame, 4))
            self.check(paper)
            self.check(cut_finer(chance, paper))
        words = ("at", "by", "days", "known", "kept", "left")
        for value in words:
            for key in ("at", "by", "kept", "left"):
                piece = (key, value, 3, 5, 7)
                self.check([("kept", piece, (0, 399)), ("left", piece, (piece, (key, "at", 399, 400, 399), piece))])

    def test_of_many_frames(self):
        self.check([("kept", ("zz", "0", 0, 400, 399), (399,) * 400), ("left", ("abcdefgh", "x" * 12, 399, 400, 0), ())])
        findings = some_findings(random.Random(77), GREAT, 60)
        self.check(paper_of(Book(GREAT, findings), [("ka", 0, 400, 399, 400), ("kb", 100, 300, 0, 400)]))

    def test_what_has_not_the_form(self):
        for thing in strange_things() + [(KEPT,), (), None, "", {}, KEPT, KEPT_TEXT]:
            if thing != [] or not isinstance(thing, list):
                check_found(self, NoPaper, thing, show_paper, thing)
        for row in NO_ROWS + strange_things():
            for paper in ([row], [KEPT, row], [LEFT, KEPT, row, KEPT]):
                check_found(self, NoPaper, paper, show_paper, paper)

    def test_papers_that_are_not_right_are_written_too(self):
        self.check([KEPT, KEPT, ("left", PIECE, (PIECE, PIECE)), ("kept", ("q", "0", 0, 1, 399), (0,))])


class Read(unittest.TestCase):

    def test_the_first_row_that_is_not_so_written(self):
        for row in BAD_ROWS:
            if row:
                check_fields(self, NoText, {"at": 0}, read_paper, row)
            check_fields(self, NoText, {"at": 0}, read_paper, f"{row}\n{KEPT_TEXT}")
            check_fields(self, NoText, {"at": 1}, read_paper, f"{LEFT_TEXT}\n{row}\n{row}")
            check_fields(self, NoText, {"at": 2}, read_paper, f"{KEPT_TEXT}\n{LEFT_TEXT}\n{row}\n{KEPT_TEXT}")

    def test_line_feeds_at_an_end(self):
        check_fields(self, NoText, {"at": 0}, read_paper, "\n")
        check_fields(self, NoText, {"at": 0}, read_paper, "\n" + KEPT_TEXT)
        check_fields(self, NoText, {"at": 1}, read_paper, KEPT_TEXT + "\n")
        check_fields(self, NoText, {"at": 0}, read_paper, KEPT_TEXT.replace(" at", "\nat"))

    def test_what_is_no_text(self):
        for thing in strange_things() + [[KEPT], [KEPT_TEXT], (), 0, [], Book(GREAT, [])]:
            if not isinstance(thing, str):
                check_fields(self, NoText, {"at": 0}, read_paper, thing)

    def test_new_each_time(self):
        check_new_each_time(self, read_paper, LEFT_TEXT)
        check_new_each_time(self, read_paper, "")
        self.assertEqual(read_paper(LEFT_TEXT)[0][2][0], COVER)
