"""Point 31: findings."""

import unittest

from leastlore.findings import is_finding
from leastlore.frames import Frame
from tests.things import GREAT, SIXTY, strange_things

FRAME = Frame(["b", "a"], 5, 4)
NO_FINDINGS = [
    ["a", "x", 0, 1, 0], ("a", "x", 0, 1), ("a", "x", 0, 1, 0, 0), ("c", "x", 0, 1, 0), ("a", "", 0, 1, 0),
    ("a", "X", 0, 1, 0), ("a", "x" * 13, 0, 1, 0), ("a", "x y", 0, 1, 0), ("a", "x\n", 0, 1, 0), ("a", 7, 0, 1, 0),
    ("a", None, 0, 1, 0), ("a", ["x"], 0, 1, 0), ("a", ("x",), 0, 1, 0), (["a"], "x", 0, 1, 0),
    (("a",), "x", 0, 1, 0), ({}, "x", 0, 1, 0), (0, "x", 0, 1, 0), (None, "x", 0, 1, 0), ("a", "x", 1, 1, 0),
    ("a", "x", 2, 1, 0), ("a", "x", -1, 1, 0), ("a", "x", 0, 6, 0), ("a", "x", 5, 6, 0), ("a", "x", 0, 1, 4),
    ("a", "x", 0, 1, -1), ("a", "x", False, 1, 0), ("a", "x", 0, True, 0), ("a", "x", 0, 1, False),
    ("a", "x", 0, 1, True), ("a", "x", [0], 1, 0), ("a", "x", 0, (1,), 0), ("a", "x", 0, 1, [0]),
    ("a", "x", 0, 1, None), ("a", "x", 0, 1, "0"), ("a", "x", "0", "1", 0), ("a", "x", 0, SIXTY, 0),
    ("a", "x", -SIXTY, 1, 0), ("a", "x", 0, 1, SIXTY), ("a", "x", (0, 1), 0), "ax010", ("find", "x", 0, 1, 0),
]


class Findings(unittest.TestCase):

    def test_numbers_one_by_one(self):
        for begin in range(-2, 8):
            for end in range(-2, 8):
                for known in range(-2, 7):
                    expected = 0 <= begin < end <= 5 and 0 <= known < 4
                    self.assertIs(is_finding(FRAME, ("a", "x", begin, end, known)), expected)

    def test_keys_and_values(self):
        for value in ("a", "0", "00", "007", "abcdefghijkl", "123456789012", "days", "known", "frame"):
            self.assertIs(is_finding(FRAME, ("b", value, 0, 5, 3)), True)
        self.assertIs(is_finding(frame=GREAT, thing=("kl", "x", 399, 400, 399)), True)
        self.assertIs(is_finding(GREAT, ("ka", "x", 0, 400, 0)), True)
        self.assertIs(is_finding(GREAT, ("a", "x", 0, 400, 0)), False)

    def test_any_thing(self):
        for thing in NO_FINDINGS + strange_things():
            self.assertIs(is_finding(FRAME, thing), False, thing)
