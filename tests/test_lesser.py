"""Points 55 and 56: lesser rights, and idle rows."""

import random
import unittest

from leastlore.boxsets import all_boxes, is_tidy
from leastlore.errors import NoNumber
from leastlore.frames import Frame
from leastlore.lesser import are_alike, beyond, idle_rows, is_lesser, telling_point, without_idle
from leastlore.rights import Rights
from tests.rulemaking import FRAME, FRAMES, allowed_points, place_by_hand, some_rows, some_told
from tests.things import GREAT, SIXTY, all_points, check_found, check_new_each_time, strange_things, tidy_of

ALL = ("all",)


def without(rows, number):
    return rows[:number] + rows[number + 1:]


def idle_by_hand(frame, rows):
    whole = allowed_points(frame, rows)
    return [number for number in range(len(rows)) if allowed_points(frame, without(rows, number)) == whole]


def left_by_hand(frame, rows):
    idle = idle_by_hand(frame, rows)
    while idle:
        rows = without(rows, idle[-1])
        idle = idle_by_hand(frame, rows)
    return rows


class Compared(unittest.TestCase):

    def test_against_points_one_by_one(self):
        chance = random.Random(55)
        for at in range(120):
            frame = FRAMES[at % len(FRAMES)]
            one, other = some_rows(chance, frame, 4), some_rows(chance, frame, 4)
            if at % 3 == 0:
                other = one + [("let", some_told(chance, frame, 2))]
            mine, theirs = allowed_points(frame, one), allowed_points(frame, other)
            given = Rights(one), Rights(other)
            self.assertEqual(beyond(frame, *given), tidy_of(frame, mine - theirs))
            self.assertIs(is_lesser(frame, *given), mine <= theirs)
            self.assertIs(are_alike(frame, *given), mine == theirs)
            self.assertIs(is_lesser(frame, given[0], given[0]), True)
            self.assertIs(are_alike(frame, given[1], given[1]), True)
            self.assertEqual([rights.rows() for rights in given], [one, other])

    def test_none_and_all(self):
        none, whole, barred = Rights([]), Rights([("let", ALL)]), Rights([("let", ALL), ("bar", ALL)])
        self.assertEqual(beyond(frame=FRAME, one=whole, other=none), all_boxes(FRAME))
        self.assertEqual(beyond(FRAME, none, whole), [])
        self.assertIs(is_lesser(frame=FRAME, one=none, other=whole), True)
        self.assertIs(is_lesser(FRAME, whole, none), False)
        self.assertIs(are_alike(frame=FRAME, one=none, other=barred), True)
        self.assertIs(are_alike(FRAME, whole, barred), False)
        check_new_each_time(self, beyond, FRAME, whole, none)
        check_new_each_time(self, beyond, FRAME, none, whole)

    def test_alike_in_one_frame_alone(self):
        one, other = Rights([("let", ("last", 4))]), Rights([("let", ALL)])
        self.assertIs(are_alike(FRAME, one, other), True)
        self.assertIs(are_alike(Frame(["a"], 1, 5), one, other), False)
        self.assertEqual(beyond(Frame(["a"], 2, 5), other, one), [("a", 0, 2, 0, 1)])


class Idle(unittest.TestCase):

    def check(self, frame, rows):
        rights = Rights(rows)
        idle = idle_by_hand(frame, rows)
        self.assertEqual(idle_rows(frame, rights), idle)
        whole = allowed_points(frame, rows)
        for number in range(len(rows)):
            changed = whole ^ allowed_points(frame, without(rows, number))
            points = [point for point in all_points(frame) if point in changed]
            self.assertEqual(telling_point(frame, rights, number), points[0] if points else None)
        left = without_idle(frame, rights)
        self.assertIs(type(left), Rights)
        self.assertEqual(left.rows(), left_by_hand(frame, rows))
        self.assertEqual(idle_rows(frame, left), [])
        self.assertIs(are_alike(frame, left, rights), True)
        self.assertEqual(rights.rows(), rows)

    def test_against_points_one_by_one(self):
        chance = random.Random(56)
        for at in range(100):
            frame = FRAMES[at % len(FRAMES)]
            self.check(frame, some_rows(chance, frame, 6, 2))

    def test_sixteen_rows(self):
        chance = random.Random(57)
        small = FRAMES[0]
        for _ in range(4):
            self.check(small, [(chance.choice(["let", "bar"]), some_told(chance, small, 3)) for _ in range(16)])
        self.check(small, [("let", ALL)] * 16)
        self.check(small, [("bar", ALL)] * 16)

    def test_no_rows_and_bars_alone(self):
        self.check(FRAME, [])
        self.check(FRAME, [("bar", ALL), ("bar", ("now",))])
        self.check(FRAME, [("let", ("key", ("q",)))])
        self.assertEqual(idle_rows(FRAME, Rights([])), [])
        self.assertEqual(without_idle(FRAME, Rights([("bar", ALL)])).rows(), [])

    def test_idle_each_by_itself_but_not_together(self):
        rows = [("let", ("last", 3)), ("let", ("turns", 1, 4))]
        self.check(FRAME, rows)
        self.assertEqual(idle_rows(FRAME, Rights(rows)), [0, 1])
        self.assertEqual(without_idle(FRAME, Rights(rows)).rows(), rows[:1])
        rows = [("let", ALL), ("bar", ("now",)), ("bar", ("last", 1))]
        self.check(FRAME, rows)
        self.assertEqual(idle_rows(FRAME, Rights(rows)), [1, 2])
        self.assertEqual(without_idle(FRAME, Rights(rows)).rows(), rows[:2])
        rows = [("let", ("key", ("a",))), ("let", ("key", ("b",))), ("let", ALL)]
        self.check(FRAME, rows)
        self.assertEqual(idle_rows(FRAME, Rights(rows)), [0, 1, 2])
        self.assertEqual(without_idle(FRAME, Rights(rows)).rows(), rows[:2])

    def test_not_idle_till_another_one_goes(self):
        # Each let is idle beside the other; the bar is not, but would be without both.
        rows = [("bar", ("turns", 0, 1)), ("let", ("turns", 0, 1)), ("bar", ("turns", 0, 2))]
        self.check(FRAME, rows)
        self.assertEqual(idle_rows(FRAME, Rights(rows)), [0, 1, 2])
        self.assertEqual(without_idle(FRAME, Rights(rows)).rows(), [])
        rows = [("let", ("turns", 0, 2)), ("bar", ("turns", 0, 1)), ("let", ("turns", 1, 2))]
        self.check(FRAME, rows)
        self.assertEqual(idle_rows(FRAME, Rights(rows)), [0, 2])
        self.assertEqual(without_idle(FRAME, Rights(rows)).rows(), rows[:2])
        rows = [("bar", ("turns", 0, 1)), ("let", ("turns", 1, 2)), ("let", ("turns", 0, 2))]
        self.check(FRAME, rows)
        self.assertEqual(idle_rows(FRAME, Rights(rows)), [1, 2])
        self.assertEqual(without_idle(FRAME, Rights(rows)).rows(), rows[1:2])

    def test_the_first_telling_point_by_place_day_and_turn(self):
        rows = [("let", ("both", ("days", 2, 4), ("turns", 1, 3))), ("bar", ("key", ("b",)))]
        self.assertEqual(telling_point(frame=FRAME, rights=Rights(rows), number=0), ("a", 2, 1))
        self.assertEqual(telling_point(FRAME, Rights(rows), 1), ("b", 2, 1))
        corner = ("both", ("key", ("kl",)), ("both", ("days", 399, 400), ("now",)))
        self.assertEqual(telling_point(GREAT, Rights([("let", corner)]), 0), ("kl", 399, 399))
        self.assertEqual(telling_point(GREAT, Rights([("let", ALL), ("bar", corner)]), 1), ("kl", 399, 399))

    def test_what_is_no_number_of_a_row(self):
        rights = Rights([("let", ALL), ("bar", ("now",))])
        for thing in [2, -1, 16, True, False, None, "0", [0], (0,), SIXTY, -SIXTY] + strange_things():
            check_found(self, NoNumber, thing, telling_point, FRAME, rights, thing)
            check_found(self, NoNumber, thing, telling_point, FRAME, Rights([]), thing)

    def test_new_each_time(self):
        rights = Rights([("let", ALL), ("let", ALL), ("bar", ("now",))])
        self.assertEqual(check_new_each_time(self, idle_rows, FRAME, rights), [0, 1])
        self.assertEqual(idle_rows(frame=FRAME, rights=rights), [0, 1])
        self.assertEqual(without_idle(frame=FRAME, rights=rights).rows(), [("let", ALL), ("bar", ("now",))])
        self.assertEqual(rights.rows(), [("let", ALL), ("let", ALL), ("bar", ("now",))])

    def test_a_great_frame(self):
        chance = random.Random(58)
        rows = [("let", some_told(chance, GREAT, 4)) for _ in range(8)]
        rows += [("bar", ("both", ("ends", 2, 0), some_told(chance, GREAT, 3))) for _ in range(4)]
        rows += [("let", ("days", at, 2 * at)) for at in range(10, 14)]
        rights = Rights(rows)
        idle = idle_rows(GREAT, rights)
        for number in range(16):
            point = telling_point(GREAT, rights, number)
            self.assertIs(point is None, number in idle)
            if point is not None:
                here = place_by_hand(GREAT, rows, point) is None
                self.assertIs(place_by_hand(GREAT, without(rows, number), point) is None, not here)
        left = without_idle(GREAT, rights)
        self.assertEqual(idle_rows(GREAT, left), [])
        self.assertEqual(left.allowed(GREAT), rights.allowed(GREAT))
        self.assertIs(is_tidy(GREAT, beyond(GREAT, Rights([("let", ALL)]), left)), True)
