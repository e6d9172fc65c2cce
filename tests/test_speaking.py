"""Points 64 to 66: who speaks, on which days a part is needed, and ladders."""

import random
import unittest

from leastlore.books import Book
from leastlore.boxes import has_point
from leastlore.boxsets import all_boxes, boxes_of
from leastlore.errors import NoBoxes, NoKey, NoNumber, NoPart
from leastlore.frames import Frame
from leastlore.runs import is_runs
from leastlore.speaking import first_turns, ladder, needed_days, quiet_days, who_speaks
from tests.test_books import some_findings, some_frame
from tests.test_boxes import NO_BOXES
from tests.test_boxsets import NOT_TIDY, great_boxes, tidy_boxes
from tests.test_findings import NO_FINDINGS
from tests.things import (
    GREAT, SIXTY, all_points, check_found, check_new_each_time, points_of, row_of, strange_things, tidy_of,
)

FRAME = Frame(["b", "a"], 5, 4)
PARTS = [("b", "x", 0, 5, 1), ("a", "x", 1, 4, 0), ("a", "y", 0, 2, 2), ("a", "z", 3, 4, 2), ("a", "x", 3, 5, 3)]
BOOK = Book(FRAME, PARTS)
NO_TIDY = NOT_TIDY + [[thing] for thing in NO_BOXES] + [[("a", 0, 1, 0, 1), ("b", 0, 1, 0, 1)], (), None, "", 0,
                                                      (("a", 0, 1, 0, 1),), [("c", 0, 1, 0, 1)]]
NO_PARTS = [list(PARTS[0]), ("a", "x", 1, 3, 0), ("a", "x", True, 4, 0), ("a", "x", 1, 4, False), ("a", "y", 1, 4, 0),
            ("b", "x", False, 5, True), ("a", "x", 1, 5, 0), PARTS[0][:4], PARTS[0] + (0,), ("b", "x", 0, 5, 0)]


def no_tidy():
    return NO_TIDY + [thing for thing in strange_things() if thing != []]


def spoken_by_hand(book, boxes):
    """For each part the points of boxes at which it speaks, by the book's own readings."""
    told = {part: set() for part in book.parts()}
    for point in points_of(boxes):
        part = book.speaker(point)
        if part is not None:
            told[part].add(point)
    return told


class Speaking(unittest.TestCase):

    def check(self, book, boxes):
        frame = book.frame
        spoken = spoken_by_hand(book, boxes)
        self.assertEqual(who_speaks(book, boxes), [(part, tidy_of(frame, spoken[part])) for part in book.parts()
                                                   if spoken[part]])
        for part in book.parts():
            needed = {day for _, day, _ in spoken[part]}
            self.assertEqual(needed_days(book, part, boxes), row_of(needed))
            self.assertEqual(quiet_days(book, part, boxes), row_of(set(range(part[2], part[3])) - needed))
            self.assertEqual(first_turns(book, part, boxes), [
                (day, min(turn for _, at, turn in spoken[part] if at == day)) for day in sorted(needed)])

    def test_against_readings_one_by_one(self):
        chance = random.Random(64)
        for _ in range(200):
            frame = some_frame(chance)
            self.check(Book(frame, some_findings(chance, frame, 9)), tidy_boxes(chance, frame, 4))

    def test_no_boxes_and_all_points(self):
        self.check(BOOK, [])
        self.check(BOOK, all_boxes(FRAME))
        self.assertEqual(who_speaks(BOOK, []), [])
        for part in PARTS:
            self.assertEqual(needed_days(BOOK, part, []), [])
            self.assertEqual(quiet_days(BOOK, part, []), [(part[2], part[3])])
            self.assertEqual(first_turns(BOOK, part, []), [])
            self.assertEqual(needed_days(BOOK, part, all_boxes(FRAME)), [(part[2], part[3])])
            self.assertEqual(quiet_days(BOOK, part, all_boxes(FRAME)), [])
            self.assertEqual(first_turns(BOOK, part, all_boxes(FRAME)), [(day, part[4])
                                                                         for day in range(part[2], part[3])])
        self.check(Book(FRAME, []), all_boxes(FRAME))

    def test_turns_ahead_of_the_known_one_and_behind_the_next_ones(self):
        part = ("a", "x", 0, 5, 1)
        book = Book(FRAME, [part, ("a", "y", 0, 3, 2)])
        for boxes, needed, first in (
            ([("a", 0, 5, 0, 1)], [], []),
            ([("a", 0, 3, 2, 4)], [], []),
            ([("a", 0, 3, 0, 1), ("a", 0, 3, 2, 4)], [], []),
            ([("b", 0, 5, 0, 4)], [], []),
            ([("a", 0, 5, 3, 4)], [(3, 5)], [(3, 3), (4, 3)]),
            ([("a", 2, 4, 0, 4)], [(2, 4)], [(2, 1), (3, 1)]),
            ([("a", 1, 2, 1, 2), ("a", 4, 5, 0, 1), ("a", 4, 5, 2, 4)], [(1, 2), (4, 5)], [(1, 1), (4, 2)]),
        ):
            self.check(book, boxes)
            self.assertEqual(needed_days(book=book, part=part, boxes=boxes), needed)
            self.assertEqual(first_turns(book=book, part=part, boxes=boxes), first)
            self.assertIs(is_runs(quiet_days(book=book, part=part, boxes=boxes)), True)

    def test_plain_answers(self):
        boxes = [("b", 2, 3, 0, 2), ("a", 0, 4, 2, 3)]
        self.assertEqual(who_speaks(book=BOOK, boxes=boxes), [
            (PARTS[0], [("b", 2, 3, 1, 2)]), (PARTS[1], [("a", 2, 3, 2, 3)]), (PARTS[2], [("a", 0, 2, 2, 3)]),
            (PARTS[3], [("a", 3, 4, 2, 3)])])
        self.assertEqual(needed_days(BOOK, PARTS[1], boxes), [(2, 3)])
        self.assertEqual(quiet_days(BOOK, PARTS[1], boxes), [(1, 2), (3, 4)])

    def test_refused(self):
        for thing in no_tidy():
            check_found(self, NoBoxes, thing, who_speaks, BOOK, thing)
            for call in (needed_days, quiet_days, first_turns):
                check_found(self, NoBoxes, thing, call, BOOK, PARTS[1], thing)
        for thing in NO_PARTS + NO_FINDINGS + strange_things():
            for call in (needed_days, quiet_days, first_turns):
                check_found(self, NoPart, thing, call, BOOK, thing, [])
                check_found(self, NoPart, thing, call, BOOK, thing, None)

    def test_new_each_time_and_nothing_changed(self):
        boxes = [("a", 0, 4, 1, 3)]
        check_new_each_time(self, who_speaks, BOOK, boxes)
        who_speaks(BOOK, boxes)[0][1].append("spoilt")
        self.assertEqual(who_speaks(BOOK, boxes), who_speaks(Book(Frame(("b", "a"), 5, 4), PARTS[::-1]), boxes))
        for call in (needed_days, quiet_days, first_turns):
            check_new_each_time(self, call, BOOK, PARTS[1], boxes)
        self.assertEqual(BOOK.parts(), PARTS)

    def test_as_many_as_may_be_in_a_great_frame(self):
        chance = random.Random(65)
        findings = []
        while len(findings) < 300:
            findings = some_findings(chance, GREAT, 500)[:320]
        book, boxes = Book(GREAT, findings), boxes_of(GREAT, great_boxes(chance))
        told = who_speaks(book, boxes)
        self.assertGreater(len(told), 100)
        for part, held in told[::9]:
            for box in held:
                for point in ((box[0], box[1], box[3]), (box[0], box[2] - 1, box[4] - 1)):
                    self.assertEqual(book.speaker(point), part)
                    self.assertIs(has_point(boxes, point), True)
            days = {day for box in held for day in range(box[1], box[2])}
            self.assertEqual(needed_days(book, part, boxes), row_of(days))
            self.assertEqual([day for day, _ in first_turns(book, part, boxes)], sorted(days))


class Ladders(unittest.TestCase):

    def test_against_readings_one_by_one(self):
        chance = random.Random(66)
        for _ in range(100):
            frame = some_frame(chance)
            book = Book(frame, some_findings(chance, frame, 12))
            for key in frame.key_names():
                for day in range(frame.days):
                    told = ladder(book, key, day)
                    readings = [book.read((key, day, turn)) for turn in range(frame.turns)]
                    self.assertEqual([reading for turn, end, reading in told for _ in range(turn, end)], readings)
                    self.assertEqual([turn for turn, _, _ in told], [0] + [end for _, end, _ in told[:-1]])
                    self.assertTrue(all(one[2] != other[2] for one, other in zip(told, told[1:])))

    def test_edges(self):
        findings = [("a", "x", 0, 1, 0), ("a", "x", 0, 2, 2), ("a", "x", 1, 3, 3), ("b", "y", 4, 5, 1)]
        book = Book(FRAME, findings)
        self.assertEqual(ladder(book=book, key="a", day=0), [(0, 2, ("x", 0)), (2, 4, ("x", 2))])
        self.assertEqual(ladder(book, "a", 1), [(0, 2, None), (2, 3, ("x", 2)), (3, 4, ("x", 3))])
        self.assertEqual(ladder(book, "a", 2), [(0, 3, None), (3, 4, ("x", 3))])
        self.assertEqual(ladder(book, "a", 4), [(0, 4, None)])
        self.assertEqual(ladder(book, "b", 4), [(0, 1, None), (1, 4, ("y", 1))])
        self.assertEqual(ladder(Book(Frame(["a"], 1, 1), [("a", "x", 0, 1, 0)]), "a", 0), [(0, 1, ("x", 0))])
        self.assertEqual(ladder(Book(Frame(["a"], 1, 1), []), "a", 0), [(0, 1, None)])
        check_new_each_time(self, ladder, book, "a", 1)
        many = Book(GREAT, [("kl", "x", 399, 400, turn) for turn in range(80, 400)])
        self.assertEqual(ladder(many, "kl", 399), [(0, 80, None)] + [(turn, turn + 1, ("x", turn))
                                                                     for turn in range(80, 400)])

    def test_refused(self):
        for thing in strange_things() + ["c", "B", 0, ["a"], ("a",)]:
            check_found(self, NoKey, thing, ladder, BOOK, thing, 0)
            check_found(self, NoKey, thing, ladder, BOOK, thing, "day")
        for thing in strange_things() + [5, -1, True, False, None, "0", [0], SIXTY]:
            check_found(self, NoNumber, thing, ladder, BOOK, "a", thing)

    def test_each_ladder_has_none_at_its_first_rung_alone(self):
        for point in all_points(FRAME):
            told = ladder(BOOK, point[0], point[1])
            self.assertNotIn(None, [reading for _, _, reading in told[1:]])
            self.assertTrue(all(turn == reading[1] for turn, _, reading in told if reading is not None))
