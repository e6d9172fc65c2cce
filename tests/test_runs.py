"""Points 14 and 15: stretches and tidy rows."""

import random
import unittest

from leastlore.errors import NoNumber, NoStretch
from leastlore.runs import (
    common_runs, has_number, how_many, is_runs, is_stretch, joined_runs, less_runs, numbers_in, runs_by, runs_of,
)
from tests.things import SIXTY, check_found, check_new_each_time, row_of, strange_things

NO_STRETCHES = [
    (0, 0), (3, 2), (5, 5), (-1, 2), (0, 401), (400, 401), (399, 401), (400, 400), (True, 2), (0, True), (False, 1),
    (0, SIXTY), (-SIXTY, 1), (0,), (0, 1, 2), [0, 1], ("0", "1"), (None, 1), (0, None), ([0], 1), (0, [1]), ((0,), 1),
    "01", {0: 1}, (),
]
NO_ROWS = [
    [(1, 2), (0, 1)], [(0, 1), (1, 2)], [(0, 2), (1, 3)], [(0, 1), (0, 1)], [(3, 5), (0, 1)], ((0, 1),), (), [[0, 1]],
    [(0, 1), (3, 3)], [(0, 1), None], [(0, 401)], [(0, True)], [(False, 1)], [0], [(0, 1), [3, 4]], {}, "", None, 0,
    (0, 1), {(0, 1): 1}, [(0, 1), (3, SIXTY)],
]


def some_numbers(chance):
    most = chance.choice([6, 30, 400])
    return {chance.randrange(most) for _ in range(chance.randrange(most))}


class Stretches(unittest.TestCase):

    def test_numbers_one_by_one(self):
        edge = [-2, -1, 0, 1, 2, 199, 398, 399, 400, 401, 402]
        for begin in edge:
            for end in edge:
                self.assertIs(is_stretch((begin, end)), 0 <= begin < end <= 400)

    def test_any_thing(self):
        for thing in NO_STRETCHES + strange_things():
            self.assertIs(is_stretch(thing), False, thing)

    def test_tidy_rows(self):
        for row in ([], [(0, 1)], [(0, 400)], [(0, 1), (2, 3)], [(0, 1), (399, 400)], [(5, 9), (10, 11), (398, 400)],
                    [(at, at + 1) for at in range(0, 400, 2)]):
            self.assertIs(is_runs(row), True, row)
            self.assertEqual(runs_of(row), row)

    def test_no_tidy_rows(self):
        for thing in NO_ROWS + NO_STRETCHES + strange_things():
            if thing != []:
                self.assertIs(is_runs(thing), False, thing)

    def test_arguments_by_name(self):
        self.assertIs(is_stretch(thing=(0, 1)), True)
        self.assertIs(is_runs(thing=[]), True)
        self.assertEqual(runs_of(stretches=[(0, 1)]), [(0, 1)])
        self.assertEqual(runs_by(numbers=[0]), [(0, 1)])
        for call in (joined_runs, common_runs, less_runs):
            self.assertEqual(call(one=[], other=[]), [])
        self.assertEqual(how_many(runs=[]), 0)
        self.assertEqual(numbers_in(runs=[]), [])
        self.assertIs(has_number(runs=[], thing=0), False)


class Making(unittest.TestCase):

    def test_touching_overlapping_alike_and_in_any_order(self):
        self.assertEqual(runs_of([]), [])
        self.assertEqual(runs_of(()), [])
        self.assertEqual(runs_of([(3, 5), (0, 3)]), [(0, 5)])
        self.assertEqual(runs_of([(2, 6), (0, 3), (8, 9), (2, 6)]), [(0, 6), (8, 9)])
        self.assertEqual(runs_of(((398, 400), (0, 400))), [(0, 400)])
        self.assertEqual(runs_of([(0, 1), (2, 3)]), [(0, 1), (2, 3)])

    def test_against_plain_numbers(self):
        chance = random.Random(14)
        for _ in range(200):
            stretches = [tuple(sorted(chance.sample(range(401), 2))) for _ in range(chance.randrange(9))]
            numbers = {number for begin, end in stretches for number in range(begin, end)}
            told = runs_of(stretches)
            self.assertEqual(told, row_of(numbers))
            self.assertEqual(runs_of(tuple(reversed(stretches))), told)
            self.assertIs(is_runs(told), True)

    def test_by_numbers(self):
        self.assertEqual(runs_by([]), [])
        self.assertEqual(runs_by((399, 0, 0, 1, 399)), [(0, 2), (399, 400)])
        self.assertEqual(runs_by(list(range(400))), [(0, 400)])
        chance = random.Random(15)
        for _ in range(200):
            numbers = list(some_numbers(chance)) * chance.choice([1, 2])
            chance.shuffle(numbers)
            self.assertEqual(runs_by(numbers), row_of(set(numbers)))

    def test_what_is_no_list_and_no_tuple(self):
        for thing in strange_things() + ["", "ab", {}, {0: 1}, {(0, 1)}, iter([])]:
            if not isinstance(thing, (list, tuple)):
                check_found(self, NoStretch, thing, runs_of, thing)
                check_found(self, NoNumber, thing, runs_by, thing)

    def test_the_first_thing_that_is_none(self):
        for wrong in NO_STRETCHES + strange_things():
            check_found(self, NoStretch, wrong, runs_of, [wrong])
            check_found(self, NoStretch, wrong, runs_of, ((0, 1), (0, 2), wrong, None, (3, 3)))
        for wrong in strange_things() + [-1, 400, "0", (0,), [0], SIXTY, True, False, None]:
            check_found(self, NoNumber, wrong, runs_by, [wrong])
            check_found(self, NoNumber, wrong, runs_by, (0, 399, wrong, None, -7))

    def test_new_each_time_and_nothing_changed(self):
        self.assertEqual(check_new_each_time(self, runs_of, [(4, 6), (0, 1)]), [(0, 1), (4, 6)])
        self.assertEqual(check_new_each_time(self, runs_of, [(0, 1)]), [(0, 1)])
        self.assertEqual(check_new_each_time(self, runs_by, [4, 0]), [(0, 1), (4, 5)])


class OfTwo(unittest.TestCase):

    def test_against_plain_numbers(self):
        chance = random.Random(16)
        for _ in range(200):
            one, other = some_numbers(chance), some_numbers(chance)
            if chance.randrange(4) == 0:
                other = set(one)
            rows = row_of(one), row_of(other)
            self.assertEqual(joined_runs(*rows), row_of(one | other))
            self.assertEqual(common_runs(*rows), row_of(one & other))
            self.assertEqual(less_runs(*rows), row_of(one - other))
            self.assertEqual(how_many(rows[0]), len(one))
            self.assertEqual(numbers_in(rows[0]), sorted(one))
            for number in range(-1, 402):
                self.assertIs(has_number(rows[0], number), number in one)

    def test_with_the_row_of_no_numbers(self):
        whole = [(0, 400)]
        for call, expected in ((joined_runs, [whole, whole, []]), (common_runs, [[], [], []]),
                               (less_runs, [whole, [], []])):
            self.assertEqual([call(whole, []), call([], whole), call([], [])], expected)
        self.assertEqual(less_runs(whole, whole), [])
        self.assertEqual(how_many(whole), 400)
        self.assertEqual(how_many([]), 0)
        self.assertEqual(numbers_in([]), [])

    def test_first_the_one_then_the_other_is_refused(self):
        for call in (joined_runs, common_runs, less_runs):
            for wrong in NO_ROWS + strange_things():
                check_found(self, NoStretch, wrong, call, wrong, [(0, 1)])
                check_found(self, NoStretch, wrong, call, [(0, 1)], wrong)
                check_found(self, NoStretch, wrong, call, wrong, [(1, 2), (0, 1)])

    def test_one_row_is_refused(self):
        for wrong in NO_ROWS + strange_things():
            check_found(self, NoStretch, wrong, how_many, wrong)
            check_found(self, NoStretch, wrong, numbers_in, wrong)
            check_found(self, NoStretch, wrong, has_number, wrong, 0)
            check_found(self, NoStretch, wrong, has_number, wrong, None)

    def test_any_thing_as_a_number(self):
        whole = [(0, 400)]
        for thing in strange_things() + ["0", [0], (0,), True, False, SIXTY]:
            self.assertIs(has_number(whole, thing), False, thing)
        self.assertEqual([has_number(whole, number) for number in (0, 399, 400, -1)], [True, True, False, False])

    def test_new_each_time_and_nothing_changed(self):
        row = [(0, 2), (5, 7)]
        for call in (joined_runs, common_runs, less_runs):
            check_new_each_time(self, call, row, [(1, 6)])
            check_new_each_time(self, call, row, [])
            check_new_each_time(self, call, row, row)
        check_new_each_time(self, numbers_in, row)
