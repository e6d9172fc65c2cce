"""Point 91: checks."""

import random
import unittest

from leastlore.checks import check_of
from leastlore.errors import NoNumber
from tests.things import SIXTY, check_found, copied, strange_things

MOST = 2 ** 32 - 1

# What is no whole number below 2 ** 32.
NOT_SMALL = [True, False, -1, 2 ** 32, 2 ** 32 + 1, SIXTY, -SIXTY, None, "", "0", "7", [0], (0,), [], (), {}, {0: 0}]


def crossed(one, other):
    """Two numbers crossed, figure of two by figure of two."""
    told = 0
    for place in range(32):
        if one // 2 ** place % 2 != other // 2 ** place % 2:
            told += 2 ** place
    return told


def check_by_hand(numbers):
    """The check by the words of point 91."""
    check = 2166136261
    for number in numbers:
        check = crossed(check, number)
        check = (check * 2654435769 + 40503) % 2 ** 32
        check = crossed(check, check // 2 ** 15)
    return check


class Checks(unittest.TestCase):

    def test_by_hand(self):
        chance = random.Random(91)
        for many in [0, 1, 2, 3, 18, 19, 20, 21, 399, 400]:
            for numbers in ([0] * many, [MOST] * many, [chance.randrange(2 ** 32) for _ in range(many)],
                            list(range(many))):
                before = list(numbers)
                told = check_of(numbers)
                self.assertEqual(told, check_by_hand(numbers))
                self.assertEqual(check_of(tuple(numbers)), told)
                self.assertEqual(numbers, before)
                self.assertIs(type(told), int)
                self.assertTrue(0 <= told <= MOST)

    def test_written_out(self):
        self.assertEqual(check_of(numbers=[]), 2166136261)
        self.assertEqual(check_of(()), 2166136261)
        # 2166136261 times 2654435769, and 40503, by the rest by 2 ** 32, crossed with itself by 2 ** 15.
        rest = (5749869571726319709 + 40503) % 2 ** 32
        self.assertEqual(check_of([0]), crossed(rest, rest // 2 ** 15))
        # What is crossed with itself is nought.
        self.assertEqual(check_of([2166136261]), crossed(40503, 1))

    def test_one_number_changed_at_every_place(self):
        chance = random.Random(911)
        for many in (1, 2, 20, 21, 400):
            numbers = [chance.choice([0, 1, MOST, chance.randrange(2 ** 32)]) for _ in range(many)]
            check = check_of(numbers)
            for at in range(many):
                for other in (0, 1, MOST, numbers[at] ^ 1, numbers[at] ^ 2 ** 31, chance.randrange(2 ** 32)):
                    if other != numbers[at]:
                        self.assertNotEqual(check_of(numbers[:at] + [other] + numbers[at + 1:]), check)

    def test_refused(self):
        for thing in strange_things() + ["", "012", {}, {0: 1}, 0, 7]:
            if not isinstance(thing, (list, tuple)):
                check_found(self, NoNumber, thing, check_of, thing)
        for thing in NOT_SMALL + strange_things():
            if type(thing) is not int or not 0 <= thing <= MOST:
                check_found(self, NoNumber, thing, check_of, [thing])
                check_found(self, NoNumber, thing, check_of, (0, MOST, thing, None, -1))

    def test_the_same_again(self):
        numbers = [3, 1, 4]
        before = copied(numbers)
        self.assertEqual(check_of(numbers), check_of(numbers))
        self.assertEqual(numbers, before)
        self.assertNotEqual(check_of([1, 3, 4]), check_of(numbers))
