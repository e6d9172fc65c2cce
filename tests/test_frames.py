"""Point 13: frames."""

import unittest

from leastlore.errors import NoFrame, NoKey
from leastlore.frames import Frame, frame_of, same_frame
from leastlore.words import own_words
from tests.things import GREAT, SIXTY, all_points, check_found, check_new_each_time, strange_things

TWELVE = ["k" + letter for letter in "abcdefghijkl"]


class Making(unittest.TestCase):

    def test_fields_and_what_is_told(self):
        frame = Frame(["b", "a", "cc"], 12, 10)
        self.assertEqual((frame.days, frame.turns, frame.now()), (12, 10, 9))
        self.assertEqual(frame.key_names(), ["b", "a", "cc"])
        self.assertEqual(frame.told(), (("b", "a", "cc"), 12, 10))
        self.assertIs(type(frame.told()[0]), tuple)
        self.assertEqual([frame.place_of(key) for key in ["b", "a", "cc"]], [0, 1, 2])

    def test_by_names_and_of_a_tuple(self):
        frame = Frame(keys=("a",), days=1, turns=400)
        self.assertEqual(frame.told(), (("a",), 1, 400))
        self.assertEqual(frame.place_of(key="a"), 0)
        self.assertIs(frame.is_point(thing=("a", 0, 399)), True)

    def test_edges(self):
        self.assertEqual(Frame(TWELVE, 400, 400).told(), (tuple(TWELVE), 400, 400))
        self.assertEqual(Frame(["abcdefgh"], 1, 1).now(), 0)
        for days in (0, 401, -1, SIXTY, -SIXTY, True, False, None, "1", [1], (1,)):
            check_found(self, NoFrame, days, Frame, ["a"], days, 1)
            check_found(self, NoFrame, days, Frame, ["a"], 1, days)

    def test_keys_that_are_none(self):
        wrong = [[], (), TWELVE + ["m"], tuple(TWELVE + ["m"]), ["a", "a"], ("a", "b", "a"), "a", "abc", {"a": 1},
                 {"a"}, ["a", None], ["a", "B"], ["abcdefghi"], [""], ["a\n"], [["a"]], [("a",)], [1], [True],
                 ["a", ["a"]], [{}], iter(["a"])]
        wrong += [[word] for word in own_words()]
        for keys in wrong + strange_things():
            check_found(self, NoFrame, keys, Frame, keys, 3, 3)

    def test_days_and_turns_that_are_none(self):
        for thing in strange_things():
            check_found(self, NoFrame, thing, Frame, ["a"], thing, 3)
            check_found(self, NoFrame, thing, Frame, ["a"], 3, thing)

    def test_the_first_of_the_three_is_refused(self):
        keys, days, turns = [["a"]], "days", {"turns": []}
        check_found(self, NoFrame, keys, Frame, keys, days, turns)
        check_found(self, NoFrame, days, Frame, ["a"], days, turns)
        check_found(self, NoFrame, turns, Frame, ["a"], 1, turns)

    def test_keys_are_kept_as_a_copy(self):
        keys = ["a", "b"]
        frame = Frame(keys, 2, 2)
        keys.append("c")
        keys[0] = "z"
        self.assertEqual(frame.key_names(), ["a", "b"])
        check_new_each_time(self, frame.key_names)
        self.assertEqual(frame.told(), (("a", "b"), 2, 2))


class Asking(unittest.TestCase):

    def test_place_of_no_key(self):
        frame = Frame(["a", "b"], 2, 2)
        for thing in strange_things() + ["c", "aa", "A", 0, 1, ["a"], ("a",)]:
            check_found(self, NoKey, thing, frame.place_of, thing)

    def test_points_one_by_one(self):
        frame = Frame(["b", "a"], 3, 2)
        points = set(all_points(frame))
        self.assertEqual(len(points), 12)
        for key in ("a", "b", "c", "ab", ""):
            for day in range(-2, 6):
                for turn in range(-2, 6):
                    point = (key, day, turn)
                    self.assertIs(frame.is_point(point), point in points)

    def test_any_thing_as_a_point(self):
        frame = Frame(["a"], 2, 2)
        wrong = [["a", 0, 0], ("a", 0), ("a", 0, 0, 0), ("a", True, 0), ("a", 0, True), ("a", False, False),
                 ("a", SIXTY, 0), ("a", 0, -SIXTY), (["a"], 0, 0), (("a",), 0, 0), ("a", [0], 0), ("a", 0, (0,)),
                 (0, 0, 0), (None, 0, 0), "a00", ({}, 0, 0), ("a", {}, 0)]
        for thing in wrong + strange_things():
            self.assertIs(frame.is_point(thing), False, thing)
        self.assertIs(frame.is_point(("a", 1, 1)), True)
        self.assertIs(GREAT.is_point(("kl", 399, 399)), True)
        self.assertIs(GREAT.is_point(("kl", 400, 399)), False)
        self.assertIs(GREAT.is_point(("kl", 399, 400)), False)


class Told(unittest.TestCase):

    def test_made_again_of_what_is_told(self):
        for frame in (Frame(["a"], 1, 1), Frame(("b", "a"), 400, 7), GREAT):
            again = frame_of(told=frame.told())
            self.assertEqual(again.told(), frame.told())
            self.assertIs(same_frame(one=frame, other=again), True)
            self.assertEqual((again.days, again.turns), (frame.days, frame.turns))

    def test_what_no_frame_tells_is_refused_whole(self):
        wrong = [(["a"], 1, 1), [("a",), 1, 1], (("a",), 1), (("a",), 1, 1, 1), ((), 1, 1), (("a", "a"), 1, 1),
                 (("a",), 0, 1), (("a",), 1, 0), (("a",), 401, 1), (("a",), 1, 401), (("a",), True, 1),
                 (("a",), 1, True), (("a",), SIXTY, 1), ("a", 1, 1), ((["a"],), 1, 1), (("now",), 1, 1),
                 (tuple(TWELVE + ["m"]), 1, 1), (("a",), None, 1), Frame(["a"], 1, 1), ({"a": 1}, 1, 1)]
        for thing in wrong + strange_things():
            check_found(self, NoFrame, thing, frame_of, thing)

    def test_same_frames(self):
        one = Frame(["a", "b"], 2, 3)
        self.assertIs(same_frame(one, one), True)
        self.assertIs(same_frame(one, Frame(("a", "b"), 2, 3)), True)
        for other in (Frame(["b", "a"], 2, 3), Frame(["a"], 2, 3), Frame(["a", "b"], 3, 3), Frame(["a", "b"], 2, 2),
                      Frame(["a", "b", "c"], 2, 3)):
            self.assertIs(same_frame(one, other), False)
            self.assertIs(same_frame(other, one), False)
