"""Points 61 to 63: where a part speaks, what speaks behind it, and silence."""

import random
import unittest

from leastlore.books import Book
from leastlore.boxes import how_many_points
from leastlore.boxsets import all_boxes, is_tidy, joined_boxes
from leastlore.errors import NoPart
from leastlore.frames import Frame
from leastlore.stairs import is_next, is_stair, next_parts, silent_boxes, stair_of
from tests.test_books import some_findings, some_frame
from tests.test_findings import NO_FINDINGS
from tests.things import (
    GREAT, all_points, check_found, check_new_each_time, copied, points_of, strange_things, tidy_of,
)

FRAME = Frame(["b", "a"], 5, 4)
PARTS = [("b", "x", 0, 5, 1), ("a", "x", 1, 4, 0), ("a", "y", 0, 2, 2), ("a", "z", 3, 4, 2), ("a", "x", 3, 5, 3)]


def next_by_hand(book, part):
    """Which parts speak next, day by day, by the words of point 62."""
    told = []
    for day in range(part[2], part[3]):
        having = [other for other in book.parts() if other[0] == part[0] and other[4] > part[4]
                  and other[2] <= day < other[3]]
        later = min(having, key=lambda other: other[4], default=None)
        if told and told[-1][2] == later:
            told[-1] = (told[-1][0], day + 1, later)
        else:
            told.append((day, day + 1, later))
    return told


class Stairs(unittest.TestCase):

    def check(self, book):
        frame = book.frame
        points = {part: {point for point in all_points(frame) if book.speaker(point) == part} for part in book.parts()}
        for part in book.parts():
            stair = tidy_of(frame, points[part])
            self.assertEqual(stair_of(book, part), stair)
            self.assertIs(is_stair(book, part, copied(stair)), True)
            behind = next_by_hand(book, part)
            self.assertEqual(next_parts(book, part), behind)
            self.assertIs(is_next(book, part, copied(behind)), True)
        silent = {point for point in all_points(frame) if book.read(point) is None}
        self.assertEqual(silent_boxes(book), tidy_of(frame, silent))
        self.assertEqual(sum(map(len, points.values())) + len(silent), len(all_points(frame)))

    def test_against_readings_one_by_one(self):
        chance = random.Random(61)
        for _ in range(150):
            frame = some_frame(chance)
            self.check(Book(frame, some_findings(chance, frame, 10)))
        self.check(Book(FRAME, PARTS))

    def test_later_ones_cover_some_days_or_all(self):
        book = Book(FRAME, PARTS)
        self.assertEqual(book.parts(), PARTS)
        self.assertEqual(stair_of(book=book, part=PARTS[0]), [("b", 0, 5, 1, 4)])
        # The days 1 and 3 are covered from the turn 2 on, by unlike parts.
        self.assertEqual(stair_of(book, PARTS[1]), [("a", 1, 2, 0, 2), ("a", 2, 3, 0, 4), ("a", 3, 4, 0, 2)])
        self.assertEqual(next_parts(book=book, part=PARTS[1]), [(1, 2, PARTS[2]), (2, 3, None), (3, 4, PARTS[3])])
        self.assertEqual(stair_of(book, PARTS[3]), [("a", 3, 4, 2, 3)])
        self.assertEqual(next_parts(book, PARTS[3]), [(3, 4, PARTS[4])])
        self.assertEqual(next_parts(book, PARTS[4]), [(3, 5, None)])
        self.assertEqual(silent_boxes(book=book), [("b", 0, 5, 0, 1), ("a", 0, 1, 0, 2), ("a", 4, 5, 0, 3)])

    def test_side_by_side_parts_of_one_turn_make_one_box_and_two_stretches(self):
        parts = [("a", "x", 0, 4, 0), ("a", "y", 0, 2, 2), ("a", "z", 2, 4, 2)]
        book = Book(FRAME, parts)
        self.assertEqual(stair_of(book, parts[0]), [("a", 0, 4, 0, 2)])
        self.assertEqual(next_parts(book, parts[0]), [(0, 2, parts[1]), (2, 4, parts[2])])

    def test_the_same_value_again_is_another_part(self):
        parts = [("a", "x", 0, 2, 0), ("a", "x", 0, 2, 3)]
        book = Book(FRAME, parts)
        self.assertEqual(stair_of(book, parts[0]), [("a", 0, 2, 0, 3)])
        self.assertEqual(stair_of(book, parts[1]), [("a", 0, 2, 3, 4)])
        self.assertEqual(next_parts(book, parts[0]), [(0, 2, parts[1])])

    def test_a_book_without_findings(self):
        book = Book(FRAME, [])
        self.assertEqual(silent_boxes(book), all_boxes(FRAME))
        self.check(book)
        check_new_each_time(self, silent_boxes, book)
        for thing in PARTS + strange_things():
            check_found(self, NoPart, thing, stair_of, book, thing)
        self.assertEqual(silent_boxes(Book(FRAME, [("b", "x", 0, 5, 0), ("a", "x", 0, 5, 0)])), [])

    def test_what_is_no_part(self):
        book = Book(FRAME, PARTS + [("b", "w", 0, 1, 0)])
        wrong = [list(PARTS[0]), ("a", "x", 1, 3, 0), ("a", "x", 1, 4, 1), ("a", "w", 1, 4, 0), ("b", "x", 1, 4, 0),
                 ("a", "x", True, 4, 0), ("a", "x", 1, 4, False), ("b", "x", False, 5, True), ("b", "w", 0, True, 0),
                 ("a", "x", 1, 5, 0), ("a", "x", 1, 4), PARTS[0] + (0,), ["b", "x", 0, 5, 1], ("c", "x", 0, 5, 1),
                 ("b", "x", 0, 5, [1])]
        for thing in wrong + NO_FINDINGS + strange_things():
            check_found(self, NoPart, thing, stair_of, book, thing)
            check_found(self, NoPart, thing, next_parts, book, thing)
            check_found(self, NoPart, thing, is_stair, book, thing, [])
            check_found(self, NoPart, thing, is_next, book, thing, None)

    def test_any_thing_as_a_stair_or_as_what_is_next(self):
        book = Book(FRAME, PARTS)
        part = PARTS[1]
        stair, behind = stair_of(book, part), next_parts(book, part)
        self.assertIs(is_stair(book=book, part=part, thing=stair), True)
        self.assertIs(is_next(book=book, part=part, thing=behind), True)
        wrong = [tuple(stair), stair[::-1], stair[:-1], stair + stair[:1], [list(box) for box in stair], [], None,
                 [("a", True, 2, 0, 2)] + stair[1:], [("a", 1, 2, False, 2)] + stair[1:], behind,
                 [("a", 1, 2, 0, 1)] + stair[1:], [("a", 1, 2, 0, 2), ("a", 2, 3, 0, 2), ("a", 2, 3, 2, 4), stair[2]]]
        for thing in wrong + strange_things():
            self.assertIs(is_stair(book, part, thing), False, thing)
        wrong = [tuple(behind), behind[::-1], behind[1:], behind + behind, [list(row) for row in behind], [], None, stair,
                 [(True, 2, PARTS[2])] + behind[1:], [(1, 2, list(PARTS[2]))] + behind[1:],
                 [(1, 2, ("a", "y", False, 2, 2))] + behind[1:], [(1, 2, None)] + behind[1:],
                 [behind[0], (2, 3, False), behind[2]], [behind[0], (2, 3), behind[2]], [(1, 2, PARTS[2], 0)] + behind[1:],
                 [(1, 2, PARTS[4])] + behind[1:]]
        for thing in wrong + strange_things():
            self.assertIs(is_next(book, part, thing), False, thing)

    def test_new_each_time_and_nothing_changed(self):
        findings = list(PARTS)
        book = Book(FRAME, findings)
        for part in PARTS:
            check_new_each_time(self, stair_of, book, part)
            check_new_each_time(self, next_parts, book, part)
        check_new_each_time(self, silent_boxes, book)
        self.assertEqual(book.parts(), PARTS)
        again = Book(Frame(("b", "a"), 5, 4), PARTS[::-1])
        self.assertEqual([stair_of(again, part) for part in PARTS], [stair_of(book, part) for part in PARTS])

    def test_as_many_findings_as_may_be_in_a_great_frame(self):
        chance = random.Random(63)
        findings = []
        while len(findings) < 300:
            findings = some_findings(chance, GREAT, 500)[:320]
        book = Book(GREAT, findings)
        whole, many = silent_boxes(book), how_many_points(silent_boxes(book))
        for at, part in enumerate(book.parts()):
            stair = stair_of(book, part)
            self.assertIs(is_stair(book, part, stair), True)
            many += how_many_points(stair)
            if at % 10 == 0:
                self.assertIs(is_tidy(GREAT, stair), True)
                self.assertEqual(next_parts(book, part), next_by_hand(book, part))
                whole = joined_boxes(GREAT, whole, stair)
                for box in stair:
                    self.assertEqual(book.speaker((box[0], box[1], box[3])), part)
                    self.assertEqual(book.speaker((box[0], box[2] - 1, box[4] - 1)), part)
        self.assertEqual(many, 12 * 400 * 400)
        self.assertIs(is_tidy(GREAT, whole), True)

    def test_a_stair_of_many_steps(self):
        findings = [("ka", "x", day, 400, day) for day in range(0, 320)]
        book = Book(GREAT, findings)
        self.assertEqual(len(book.parts()), 320)
        self.assertEqual(stair_of(book, ("ka", "x", 0, 400, 0)), [("ka", 0, 1, 0, 400), ("ka", 1, 400, 0, 1)])
        self.assertEqual(stair_of(book, ("ka", "x", 319, 400, 319)), [("ka", 319, 400, 319, 400)])
        falling = [("ka", "x", day, 400, 399 - day) for day in range(0, 320)]
        part = ("ka", "x", 319, 400, 80)
        told = next_parts(Book(GREAT, falling), part)
        self.assertEqual(told, [(319, 400, ("ka", "x", 318, 400, 81))])
        comb = [("ka", "x", 0, 400, 0)] + [("ka", "y", day, day + 1, day) for day in range(1, 400, 2)]
        told = next_parts(Book(GREAT, comb), comb[0])
        self.assertEqual(len(told), 400)
        self.assertEqual(points_of(stair_of(Book(GREAT, comb), comb[0])) & {("ka", 7, 7), ("ka", 7, 6), ("ka", 8, 399)},
                         {("ka", 7, 6), ("ka", 8, 399)})
