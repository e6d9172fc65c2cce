"""Point 25: tidy boxes as text."""

import random
import unittest

from leastlore.boxsets import all_boxes, boxes_of
from leastlore.boxtext import read_boxes, show_boxes
from leastlore.errors import NoBoxes, NoText
from leastlore.frames import Frame
from tests.test_boxsets import NOT_TIDY, great_boxes, some_frame, tidy_boxes
from tests.things import GREAT, check_fields, check_new_each_time, refusal, strange_things

FRAME = Frame(["b", "a"], 12, 11)
GOOD = "b 0 12 0 11"
BAD_ROWS = [
    "", " ", "b", "b 0 12 0", "b 0 12 0 11 0", "c 0 12 0 11", "b 00 12 0 11", "b 0 12 0 011", "b  0 12 0 11",
    " b 0 12 0 11", "b 0 12 0 11 ", "b 0 13 0 11", "b 0 12 0 12", "b 5 5 0 1", "b 6 5 0 1", "b 0 1 3 3", "b 0 1 3 2",
    "b -1 2 0 1", "b +0 2 0 1", "b 0 x 0 1", "B 0 12 0 11", "0 b 12 0 11", "b 0,12 0 11", "b\t0 12 0 11",
    "b 0 12 0 " + "9" * 5000, "b 0 12 0 \u0661", "b 0 12 0 1\r", "b 0 400 0 11", "b 0 12 0 400", "'b' 0 12 0 11",
]


class Showing(unittest.TestCase):

    def test_rows(self):
        self.assertEqual(show_boxes([]), "")
        self.assertEqual(show_boxes([("a", 0, 12, 3, 10)]), "a 0 12 3 10")
        self.assertEqual(show_boxes(boxes=all_boxes(FRAME)), "b 0 12 0 11\na 0 12 0 11")

    def test_written_and_read(self):
        chance = random.Random(25)
        for _ in range(100):
            frame = some_frame(chance)
            boxes = tidy_boxes(chance, frame)
            text = show_boxes(boxes)
            self.assertEqual(text, "\n".join(" ".join(map(str, box)) for box in boxes))
            self.assertEqual(read_boxes(frame, text), boxes)
            self.assertEqual(show_boxes(read_boxes(frame, text)), text)

    def test_keys_that_begin_with_one_another_or_with_own_words(self):
        frame = Frame(["aa", "a", "nows", "dayss"], 3, 3)
        boxes = [(key, 0, 2, 1, 3) for key in frame.key_names()]
        self.assertEqual(show_boxes(boxes), "aa 0 2 1 3\na 0 2 1 3\nnows 0 2 1 3\ndayss 0 2 1 3")
        self.assertEqual(read_boxes(frame, show_boxes(boxes)), boxes)

    def test_a_great_frame(self):
        boxes = boxes_of(GREAT, great_boxes(random.Random(8), 40))
        self.assertEqual(read_boxes(GREAT, show_boxes(boxes)), boxes)
        self.assertEqual(read_boxes(GREAT, "kl 399 400 399 400"), [("kl", 399, 400, 399, 400)])


class Reading(unittest.TestCase):

    def test_texts(self):
        self.assertEqual(read_boxes(frame=FRAME, text=""), [])
        self.assertEqual(read_boxes(FRAME, GOOD), [("b", 0, 12, 0, 11)])
        check_new_each_time(self, read_boxes, FRAME, "b 0 1 0 1\na 0 1 0 1")
        check_new_each_time(self, read_boxes, FRAME, "")

    def test_what_is_no_text(self):
        for thing in strange_things() + [[GOOD], (GOOD,), 0]:
            if not isinstance(thing, str):
                check_fields(self, NoText, {"at": 0}, read_boxes, FRAME, thing)

    def test_the_first_row_that_cannot_stand(self):
        for row in BAD_ROWS:
            if row:
                check_fields(self, NoText, {"at": 0}, read_boxes, FRAME, row)
            check_fields(self, NoText, {"at": 0}, read_boxes, FRAME, row + "\n" + GOOD)
            check_fields(self, NoText, {"at": 1}, read_boxes, FRAME, GOOD + "\n" + row)
            check_fields(self, NoText, {"at": 2}, read_boxes, FRAME, "\n".join([GOOD, GOOD, row, GOOD, row]))

    def test_line_feeds_at_an_end(self):
        check_fields(self, NoText, {"at": 1}, read_boxes, FRAME, GOOD + "\n")
        check_fields(self, NoText, {"at": 0}, read_boxes, FRAME, "\n" + GOOD)
        check_fields(self, NoText, {"at": 0}, read_boxes, FRAME, "\n")

    def test_no_tidy_boxes_are_refused_with_the_list_of_them(self):
        frame = Frame(["b", "a"], 5, 4)
        for boxes in NOT_TIDY:
            error = refusal(self, NoBoxes, read_boxes, frame, show_boxes(boxes))
            self.assertEqual(error.found, boxes)
            self.assertIs(type(error.found), list)
            check_fields(self, NoText, {"at": len(boxes)}, read_boxes, frame, show_boxes(boxes) + "\nx")
