"""Points 21, 22 and 23: sets of points, told as tidy boxes."""

import random
import unittest

from leastlore.boxes import how_many_points
from leastlore.boxsets import (
    all_boxes, boxes_of, common_boxes, first_point, is_tidy, joined_boxes, keys_with, less_boxes, lies_within,
)
from leastlore.errors import NoBoxes
from leastlore.frames import Frame
from tests.test_boxes import NO_BOXES
from tests.things import (
    GREAT, all_points, check_found, check_new_each_time, points_of, some_boxes, strange_things, tidy_of,
)

FRAME = Frame(["b", "a"], 5, 4)

# Boxes of FRAME that stand otherwise than tidily.
NOT_TIDY = [
    [("a", 0, 1, 0, 1), ("b", 0, 1, 0, 1)],
    [("a", 2, 3, 0, 1), ("a", 0, 1, 0, 1)],
    [("a", 0, 1, 2, 3), ("a", 0, 1, 0, 1)],
    [("a", 0, 1, 0, 1), ("a", 0, 1, 0, 1)],
    [("a", 0, 1, 0, 1), ("a", 0, 1, 1, 2)],
    [("a", 0, 1, 0, 2), ("a", 0, 1, 1, 3)],
    [("a", 0, 1, 0, 1), ("a", 1, 2, 0, 1)],
    [("a", 0, 2, 0, 1), ("a", 1, 3, 0, 1)],
    [("a", 0, 2, 0, 1), ("a", 1, 3, 2, 3)],
    [("a", 0, 1, 0, 1), ("a", 1, 2, 0, 1), ("a", 0, 1, 2, 3), ("a", 1, 2, 2, 3)],
    [("a", 0, 1, 0, 1), ("a", 0, 1, 2, 3), ("a", 1, 2, 0, 1), ("a", 1, 2, 2, 3)],
    [("b", 0, 1, 0, 1), ("a", 0, 1, 0, 1), ("b", 2, 3, 0, 1)],
]


def tidy_boxes(chance, frame, most=5):
    return tidy_of(frame, points_of(some_boxes(chance, frame, most)))


def some_frame(chance):
    return Frame(["b", "a", "ab"][:chance.randrange(1, 4)], chance.randrange(1, 7), chance.randrange(1, 7))


def great_boxes(chance, many=400):
    """As many boxes as may be handed in, of a frame as great as any."""
    boxes = []
    while len(boxes) < many:
        boxes += some_boxes(chance, GREAT, many - len(boxes))
    return boxes


class Making(unittest.TestCase):

    def test_against_plain_points(self):
        chance = random.Random(21)
        for _ in range(200):
            frame = some_frame(chance)
            boxes = some_boxes(chance, frame, 8)
            told = boxes_of(frame, boxes)
            self.assertEqual(told, tidy_of(frame, points_of(boxes)))
            self.assertEqual(boxes_of(frame, tuple(reversed(boxes))), told)
            self.assertEqual(boxes_of(frame, boxes + boxes), told)
            self.assertEqual(boxes_of(frame, told), told)
            self.assertIs(is_tidy(frame, told), True)

    def test_touching_overlapping_and_alike(self):
        self.assertEqual(boxes_of(FRAME, [("a", 1, 3, 0, 2), ("a", 0, 1, 0, 2)]), [("a", 0, 3, 0, 2)])
        self.assertEqual(boxes_of(FRAME, [("a", 0, 1, 1, 4), ("a", 0, 1, 0, 1)]), [("a", 0, 1, 0, 4)])
        self.assertEqual(boxes_of(FRAME, [("a", 0, 1, 0, 1)] * 3), [("a", 0, 1, 0, 1)])
        self.assertEqual(boxes_of(FRAME, [("a", 0, 3, 0, 1), ("a", 2, 5, 2, 3)]), [
            ("a", 0, 2, 0, 1), ("a", 2, 3, 0, 1), ("a", 2, 3, 2, 3), ("a", 3, 5, 2, 3)])
        self.assertEqual(boxes_of(FRAME, [("a", 0, 1, 0, 1), ("b", 1, 2, 0, 1)]), [
            ("b", 1, 2, 0, 1), ("a", 0, 1, 0, 1)])

    def test_days_side_by_side_with_several_stretches_of_the_same_turns(self):
        cut = [("a", day, day + 1, turn, turn + 1) for day in range(4) for turn in (0, 2)]
        self.assertEqual(boxes_of(FRAME, cut), [("a", 0, 4, 0, 1), ("a", 0, 4, 2, 3)])

    def test_no_boxes_and_all_points(self):
        self.assertEqual(boxes_of(FRAME, []), [])
        self.assertEqual(boxes_of(FRAME, ()), [])
        self.assertEqual(all_boxes(FRAME), [("b", 0, 5, 0, 4), ("a", 0, 5, 0, 4)])
        self.assertEqual(all_boxes(FRAME), tidy_of(FRAME, set(all_points(FRAME))))
        self.assertEqual(all_boxes(Frame(["a"], 1, 1)), [("a", 0, 1, 0, 1)])
        self.assertEqual(all_boxes(GREAT), [(key, 0, 400, 0, 400) for key in GREAT.key_names()])
        check_new_each_time(self, all_boxes, FRAME)

    def test_what_is_no_list_and_no_tuple(self):
        for thing in strange_things() + ["", {}, {("a", 0, 1, 0, 1): 1}]:
            if not isinstance(thing, (list, tuple)):
                check_found(self, NoBoxes, thing, boxes_of, FRAME, thing)

    def test_the_first_thing_that_is_no_box(self):
        for wrong in NO_BOXES + strange_things():
            check_found(self, NoBoxes, wrong, boxes_of, FRAME, [wrong])
            check_found(self, NoBoxes, wrong, boxes_of, FRAME, (("a", 0, 1, 0, 1), wrong, None, ("c", 0, 1, 0, 1)))

    def test_new_each_time_and_nothing_changed(self):
        check_new_each_time(self, boxes_of, FRAME, [("a", 0, 1, 0, 1)])
        check_new_each_time(self, boxes_of, FRAME, [("a", 1, 2, 0, 1), ("a", 0, 1, 0, 1)])

    def test_as_many_as_may_be_in_a_great_frame(self):
        told = boxes_of(GREAT, great_boxes(random.Random(3)))
        self.assertIs(is_tidy(GREAT, told), True)
        comb = [("ka", 0, 400, turn, turn + 1) for turn in range(0, 400, 2)]
        comb += [("ka", day, day + 1, 0, 400) for day in range(0, 400, 2)]
        told = boxes_of(GREAT, comb)
        self.assertEqual(len(told), 200 + 200 * 200)
        self.assertEqual(how_many_points(told), 400 * 200 + 200 * 200)


class Tidy(unittest.TestCase):

    def test_each_set_has_just_one_list(self):
        chance = random.Random(211)
        for _ in range(150):
            frame = some_frame(chance)
            tidy = tidy_boxes(chance, frame)
            self.assertIs(is_tidy(frame, tidy), True)
            shuffled = list(tidy)
            chance.shuffle(shuffled)
            self.assertIs(is_tidy(frame, shuffled), shuffled == tidy)
            if tidy:
                self.assertIs(is_tidy(frame, tidy + [chance.choice(tidy)]), False)
                self.assertIs(is_tidy(frame, tuple(tidy)), False)

    def test_untidy_boxes(self):
        for boxes in NOT_TIDY:
            self.assertIs(is_tidy(FRAME, boxes), False, boxes)

    def test_any_thing(self):
        for thing in NO_BOXES + strange_things():
            if thing != []:
                self.assertIs(is_tidy(FRAME, thing), False, thing)
            self.assertIs(is_tidy(FRAME, [thing]), False, thing)
        self.assertIs(is_tidy(FRAME, []), True)
        self.assertIs(is_tidy(FRAME, ()), False)
        self.assertIs(is_tidy(FRAME, [["a", 0, 1, 0, 1]]), False)
        self.assertIs(is_tidy(FRAME, [("a", False, True, False, True)]), False)

    def test_boxes_of_another_frame(self):
        self.assertIs(is_tidy(FRAME, [("a", 0, 5, 0, 4)]), True)
        self.assertIs(is_tidy(Frame(["b", "a"], 4, 4), [("a", 0, 5, 0, 4)]), False)
        both = [("b", 0, 1, 0, 1), ("a", 0, 1, 0, 1)]
        self.assertIs(is_tidy(FRAME, both), True)
        self.assertIs(is_tidy(Frame(["a", "b"], 5, 4), both), False)


class OfTwo(unittest.TestCase):

    def test_against_plain_points(self):
        chance = random.Random(22)
        for _ in range(200):
            frame = some_frame(chance)
            one, other = tidy_boxes(chance, frame), tidy_boxes(chance, frame)
            if chance.randrange(4) == 0:
                other = tidy_of(frame, points_of(one) | points_of(other))
            mine, theirs = points_of(one), points_of(other)
            self.assertEqual(joined_boxes(frame, one, other), tidy_of(frame, mine | theirs))
            self.assertEqual(common_boxes(frame, one, other), tidy_of(frame, mine & theirs))
            self.assertEqual(less_boxes(frame, one, other), tidy_of(frame, mine - theirs))
            self.assertIs(lies_within(frame, one, other), mine <= theirs)
            self.assertIs(lies_within(frame, other, one), theirs <= mine)

    def test_with_no_boxes_and_all_points(self):
        whole = all_boxes(FRAME)
        self.assertEqual(less_boxes(FRAME, whole, whole), [])
        self.assertEqual(less_boxes(FRAME, whole, []), whole)
        self.assertEqual(less_boxes(FRAME, [], whole), [])
        self.assertEqual(joined_boxes(FRAME, [], []), [])
        self.assertEqual(common_boxes(FRAME, whole, []), [])
        self.assertIs(lies_within(FRAME, [], []), True)
        self.assertIs(lies_within(FRAME, [], whole), True)
        self.assertIs(lies_within(FRAME, whole, []), False)
        self.assertIs(lies_within(FRAME, whole, whole), True)
        hole = less_boxes(FRAME, whole, [("a", 2, 3, 1, 2)])
        self.assertEqual(hole, [("b", 0, 5, 0, 4), ("a", 0, 2, 0, 4), ("a", 2, 3, 0, 1), ("a", 2, 3, 2, 4),
                                ("a", 3, 5, 0, 4)])
        self.assertEqual(joined_boxes(FRAME, hole, [("a", 2, 3, 1, 2)]), whole)

    def test_first_the_one_then_the_other_is_refused(self):
        good = [("a", 0, 1, 0, 1)]
        wrong = NOT_TIDY + NO_BOXES + [tuple(good), [("a", 0, 9, 0, 1)], None]
        wrong += [thing for thing in strange_things() if thing != []]
        for call in (joined_boxes, common_boxes, less_boxes, lies_within):
            for thing in wrong:
                check_found(self, NoBoxes, thing, call, FRAME, thing, good)
                check_found(self, NoBoxes, thing, call, FRAME, good, thing)
                check_found(self, NoBoxes, thing, call, FRAME, thing, [("c", 0, 1, 0, 1)])

    def test_new_each_time_and_nothing_changed(self):
        one, other = [("a", 0, 2, 0, 2)], [("a", 1, 3, 1, 3)]
        for call in (joined_boxes, common_boxes, less_boxes):
            check_new_each_time(self, call, FRAME, one, other)
            check_new_each_time(self, call, FRAME, one, one)
            check_new_each_time(self, call, FRAME, one, [])

    def test_as_many_as_may_be_in_a_great_frame(self):
        chance = random.Random(5)
        one, other = boxes_of(GREAT, great_boxes(chance)), boxes_of(GREAT, great_boxes(chance))
        both = common_boxes(GREAT, one, other)
        either = joined_boxes(GREAT, one, other)
        less = less_boxes(GREAT, one, other)
        self.assertEqual(how_many_points(either) + how_many_points(both),
                         how_many_points(one) + how_many_points(other))
        self.assertEqual(how_many_points(less) + how_many_points(both), how_many_points(one))
        self.assertEqual(joined_boxes(GREAT, less, both), one)
        self.assertIs(lies_within(GREAT, one, either), True)
        self.assertIs(lies_within(GREAT, either, one), False)


class KeysAndFirst(unittest.TestCase):

    def test_against_plain_points(self):
        chance = random.Random(23)
        for _ in range(150):
            frame = some_frame(chance)
            boxes = tidy_boxes(chance, frame, 3)
            points = [point for point in all_points(frame) if point in points_of(boxes)]
            keys = [key for key in frame.key_names() if any(point[0] == key for point in points)]
            self.assertEqual(keys_with(frame, boxes), keys)
            self.assertEqual(first_point(frame, boxes), points[0] if points else None)

    def test_the_frames_order(self):
        boxes = [("b", 3, 4, 2, 3), ("a", 0, 1, 0, 1)]
        self.assertEqual(keys_with(FRAME, boxes), ["b", "a"])
        self.assertEqual(first_point(FRAME, boxes), ("b", 3, 2))
        self.assertEqual(keys_with(FRAME, []), [])
        self.assertIsNone(first_point(FRAME, []))
        check_new_each_time(self, keys_with, FRAME, boxes)

    def test_what_is_no_tidy_boxes(self):
        for thing in NOT_TIDY + NO_BOXES + [thing for thing in strange_things() if thing != []]:
            check_found(self, NoBoxes, thing, keys_with, FRAME, thing)
            check_found(self, NoBoxes, thing, first_point, FRAME, thing)


class ByName(unittest.TestCase):

    def test_arguments_by_name(self):
        boxes = [("a", 0, 1, 0, 1)]
        self.assertEqual(boxes_of(frame=FRAME, boxes=boxes), boxes)
        self.assertIs(is_tidy(frame=FRAME, thing=boxes), True)
        self.assertEqual(len(all_boxes(frame=FRAME)), 2)
        for call in (joined_boxes, common_boxes, less_boxes, lies_within):
            call(frame=FRAME, one=boxes, other=boxes)
        self.assertEqual(keys_with(frame=FRAME, boxes=boxes), ["a"])
        self.assertEqual(first_point(frame=FRAME, boxes=boxes), ("a", 0, 0))
