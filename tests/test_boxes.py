"""Point 24, and of point 21 what a box is."""

import random
import unittest

from leastlore.boxes import box_with, days_with, has_point, how_many_points, is_box, turns_at
from leastlore.frames import Frame
from leastlore.runs import is_runs
from tests.things import (
    GREAT, SIXTY, all_points, check_new_each_time, copied, points_of, row_of, some_boxes, strange_things, tidy_of,
)

FRAME = Frame(["b", "a"], 5, 4)
NO_BOXES = [
    ["a", 0, 1, 0, 1], ("a", 0, 1, 0), ("a", 0, 1, 0, 1, 0), ("c", 0, 1, 0, 1), ("a", 1, 1, 0, 1), ("a", 2, 1, 0, 1),
    ("a", 0, 1, 1, 1), ("a", 0, 1, 3, 2), ("a", 0, 6, 0, 1), ("a", 0, 1, 0, 5), ("a", -1, 1, 0, 1), ("a", 0, 1, -1, 1),
    ("a", False, 1, 0, 1), ("a", 0, True, 0, 1), ("a", 0, 1, False, 1), ("a", 0, 1, 0, True), (["a"], 0, 1, 0, 1),
    (("a",), 0, 1, 0, 1), ("a", [0], 1, 0, 1), ("a", (0, 1), (0, 1)), ("a", "0", "1", "0", "1"), (0, 0, 1, 0, 1),
    ("a", None, 1, 0, 1), ("a", 0, SIXTY, 0, 1), ("a", 0, 1, 0, SIXTY), ("a", 0, 1, 0, [1]), "a0101", ({}, 0, 1, 0, 1),
    ("find", 0, 1, 0, 1), ("", 0, 1, 0, 1), ("a\n", 0, 1, 0, 1), ("a", 0, 1, {}, 1), ("a", 0, 1, 0, (1,)),
]


class Box(unittest.TestCase):

    def test_numbers_one_by_one(self):
        numbers = range(-1, 7)
        for day in numbers:
            for day_end in numbers:
                for turn in numbers:
                    for turn_end in numbers:
                        expected = 0 <= day < day_end <= 5 and 0 <= turn < turn_end <= 4
                        self.assertIs(is_box(FRAME, ("a", day, day_end, turn, turn_end)), expected)

    def test_any_thing(self):
        for thing in NO_BOXES + strange_things():
            self.assertIs(is_box(FRAME, thing), False, thing)

    def test_edges_and_names(self):
        self.assertIs(is_box(frame=GREAT, thing=("kl", 399, 400, 399, 400)), True)
        self.assertIs(is_box(GREAT, ("ka", 0, 400, 0, 400)), True)
        self.assertIs(is_box(GREAT, ("ka", 0, 401, 0, 400)), False)
        self.assertIs(is_box(GREAT, ("ka", 0, 400, 0, 401)), False)


class Having(unittest.TestCase):

    def check_all(self, frame, boxes):
        points = points_of(boxes)
        for point in all_points(frame):
            self.assertIs(has_point(boxes, point), point in points)
            held = [box for box in boxes if point in points_of([box])]
            self.assertEqual(box_with(boxes, point), held[0] if held else None)
        for key in frame.key_names() + ["zz"]:
            days = {day for name, day, _ in points if name == key}
            self.assertEqual(days_with(boxes, key), row_of(days))
            for day in range(-1, frame.days + 2):
                turns = {turn for name, at, turn in points if (name, at) == (key, day)}
                self.assertEqual(turns_at(boxes, key, day), row_of(turns))
                self.assertIs(is_runs(turns_at(boxes, key, day)), True)
        self.assertEqual(how_many_points(boxes), len(points))

    def test_against_plain_points(self):
        chance = random.Random(24)
        for _ in range(60):
            frame = Frame(["b", "a", "ab"], chance.randrange(1, 7), chance.randrange(1, 7))
            self.check_all(frame, tidy_of(frame, points_of(some_boxes(chance, frame, 5))))

    def test_no_boxes(self):
        self.check_all(FRAME, [])
        self.assertEqual(how_many_points([]), 0)

    def test_first_and_last_points_and_those_beside(self):
        boxes = [("a", 2, 4, 1, 3)]
        for point in (("a", 2, 1), ("a", 3, 2), ("a", 2, 2), ("a", 3, 1)):
            self.assertIs(has_point(boxes, point), True)
            self.assertEqual(box_with(boxes, point), boxes[0])
        for point in (("a", 1, 1), ("a", 2, 0), ("a", 4, 2), ("a", 3, 3), ("b", 2, 1), ("aa", 2, 1)):
            self.assertIs(has_point(boxes, point), False)
            self.assertIsNone(box_with(boxes, point))

    def test_days_side_by_side_with_unlike_turns_are_one_run(self):
        boxes = [("a", 0, 2, 0, 1), ("a", 0, 2, 2, 3), ("a", 2, 3, 0, 4), ("a", 4, 5, 0, 1)]
        self.assertEqual(days_with(boxes, "a"), [(0, 3), (4, 5)])
        self.assertEqual(turns_at(boxes, "a", 1), [(0, 1), (2, 3)])
        self.assertEqual(turns_at(boxes, "a", 3), [])

    def test_any_thing(self):
        boxes = [("a", 0, 2, 0, 2), ("b", 0, 1, 0, 1)]
        things = strange_things() + [["a", 0, 0], ("a", 0), ("a", 0, 0, 0), (["a"], 0, 0), (("a",), 0, 0),
                                     ("a", False, 0), ("a", 0, True), ("a", [0], 0), ("a", 0, (0,)), ("a", None, 0),
                                     ("a", SIXTY, 0), ("a", 0, -SIXTY), ({}, 0, 0), ("a", "0", 0)]
        for thing in things:
            self.assertIs(has_point(boxes, thing), False, thing)
            self.assertIsNone(box_with(boxes, thing), thing)
            self.assertEqual(turns_at(boxes, thing, 0), [], thing)
            self.assertEqual(turns_at(boxes, "a", thing), [], thing)
            self.assertEqual(turns_at(boxes, thing, thing), [], thing)
            self.assertEqual(days_with(boxes, thing), [], thing)

    def test_a_great_frame(self):
        boxes = [("kl", 0, 399, 0, 400), ("kl", 399, 400, 0, 399)]
        self.assertEqual(how_many_points(boxes), 159999)
        self.assertEqual(days_with(boxes, "kl"), [(0, 400)])
        self.assertEqual(turns_at(boxes, "kl", 399), [(0, 399)])
        self.assertIs(has_point(boxes, ("kl", 399, 399)), False)
        self.assertEqual(box_with(boxes, ("kl", 399, 398)), boxes[1])

    def test_new_each_time_and_nothing_changed(self):
        boxes = [("a", 0, 2, 0, 1), ("a", 0, 2, 2, 3)]
        before = copied(boxes)
        check_new_each_time(self, turns_at, boxes, "a", 0)
        check_new_each_time(self, turns_at, boxes, "a", None)
        check_new_each_time(self, days_with, boxes, "a")
        check_new_each_time(self, days_with, boxes, "c")
        self.assertEqual(boxes, before)

    def test_arguments_by_name(self):
        boxes = [("a", 0, 2, 0, 1)]
        self.assertIs(has_point(boxes=boxes, thing=("a", 0, 0)), True)
        self.assertEqual(box_with(boxes=boxes, thing=("a", 0, 0)), boxes[0])
        self.assertEqual(turns_at(boxes=boxes, key="a", day=1), [(0, 1)])
        self.assertEqual(days_with(boxes=boxes, key="a"), [(0, 2)])
        self.assertEqual(how_many_points(boxes=boxes), 2)
