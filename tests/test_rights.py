"""Points 51 to 54: rights."""

import random
import unittest

from leastlore.books import Book
from leastlore.boxes import has_point
from leastlore.boxsets import all_boxes, is_tidy
from leastlore.errors import NoNumber, NoPoint, NoRights, NotAllowed
from leastlore.frames import Frame
from leastlore.rights import Rights
from leastlore.rules import All
from tests.rulemaking import (
    FRAME, FRAMES, allowed_points, great_points, holds_by_hand, nested, not_told, place_by_hand, some_rows, some_told,
)
from tests.test_books import atoms_of, reading_by_hand, some_findings
from tests.things import (
    GREAT, SIXTY, all_points, check_found, check_new_each_time, copied, refusal, strange_things, tidy_of,
)

ALL = ("all",)
LET = ("let", ALL)
BAR = ("bar", ("now",))
NO_POINTS = [("c", 0, 0), ("a", 5, 0), ("a", 0, 4), ("a", -1, 0), ["a", 0, 0], ("a", True, 0), ("a", 0, False), ("a", 0),
             ("a", 0, 0, 0), (["a"], 0, 0)]


def no_rows():
    """Any things that are no rows of rights."""
    wrong = [["let", ALL], ("let",), ("let", ALL, ALL), ("Let", ALL), ("allow", ALL), (ALL, "let"), ("", ALL),
             (None, ALL), (True, ALL), (["let"], ALL), (0, ALL), ("let", All()), "let", ("let", "all"), "let all",
             {"let": ALL}, ({}, ALL)]
    return wrong + [("let", thing) for thing in not_told()] + [("bar", thing) for thing in not_told()] + strange_things()


class Rows(unittest.TestCase):

    def test_told_as_handed_in(self):
        chance = random.Random(51)
        for many in range(17):
            rows = [(chance.choice(["let", "bar"]), some_told(chance, FRAME, 4)) for _ in range(many)]
            rights = Rights(rows=rows)
            self.assertEqual(rights.rows(), rows)
            self.assertEqual(repr(Rights(tuple(rows)).rows()), repr(rows))

    def test_kept_as_a_copy_and_new_each_time(self):
        rows = [LET, BAR]
        rights = Rights(rows)
        rows.append(LET)
        rows[0] = BAR
        self.assertEqual(check_new_each_time(self, rights.rows), [LET, BAR])
        self.assertEqual(Rights([]).rows(), [])
        check_new_each_time(self, Rights(()).rows)

    def test_refused_whole(self):
        for thing in strange_things() + ["", {}, {LET: 1}, Rights([]), LET]:
            if not isinstance(thing, (list, tuple)):
                check_found(self, NoRights, thing, Rights, thing)
        for thing in ([LET] * 17, (BAR,) * 17, [None] * 17, [[]] * 400):
            check_found(self, NoRights, thing, Rights, thing)
        self.assertEqual(len(Rights([LET] * 16).rows()), 16)

    def test_the_first_thing_that_is_no_row(self):
        for wrong in no_rows():
            check_found(self, NoRights, wrong, Rights, [wrong])
            check_found(self, NoRights, wrong, Rights, (LET, BAR, wrong, None, ("let",)))

    def test_with_a_row_more(self):
        rights = Rights([LET])
        more = rights.with_row(word="bar", told=("now",))
        self.assertIs(type(more), Rights)
        self.assertEqual(more.rows(), [LET, BAR])
        self.assertEqual(rights.rows(), [LET])
        self.assertEqual(Rights([]).with_row("let", nested(4)).rows(), [("let", nested(4))])
        self.assertEqual(more.allowed(FRAME), [("b", 0, 5, 0, 3), ("a", 0, 5, 0, 3)])
        self.assertEqual(rights.allowed(FRAME), all_boxes(FRAME))

    def test_with_a_row_that_is_none(self):
        rights = Rights([LET])
        for thing in not_told():
            error = refusal(self, NoRights, rights.with_row, "let", thing)
            self.assertIs(type(error.found), tuple)
            self.assertEqual((len(error.found), error.found[0]), (2, "let"))
            self.assertIs(error.found[1], thing)
        for thing in strange_things() + ["all", ["let"], ("let",)]:
            error = refusal(self, NoRights, rights.with_row, thing, ALL)
            self.assertIs(error.found[0], thing)
            self.assertEqual(error.found[1:], (ALL,))
        self.assertEqual(rights.rows(), [LET])

    def test_with_a_seventeenth_row(self):
        rights = Rights([LET] * 16)
        error = refusal(self, NoRights, rights.with_row, "bar", ("now",))
        self.assertEqual(error.found, [LET] * 16 + [BAR])
        self.assertIs(type(error.found), list)
        error = refusal(self, NoRights, rights.with_row, "no word", None)
        self.assertEqual(error.found, [LET] * 16 + [("no word", None)])
        self.assertEqual(rights.rows(), [LET] * 16)

    def test_without_a_row(self):
        rows = [LET, BAR, ("let", ("last", 2))]
        rights = Rights(rows)
        for number in range(3):
            self.assertEqual(rights.without_row(number=number).rows(), rows[:number] + rows[number + 1:])
        self.assertEqual(rights.rows(), rows)
        for thing in [3, -1, 16, True, False, None, "0", [0], (0,), SIXTY, -SIXTY] + strange_things():
            check_found(self, NoNumber, thing, rights.without_row, thing)
            check_found(self, NoNumber, thing, Rights([]).without_row, thing)
        check_found(self, NoNumber, 0, Rights([]).without_row, 0)
        self.assertEqual(Rights([LET]).without_row(0).rows(), [])


class Allowed(unittest.TestCase):

    def check(self, frame, rows):
        rights = Rights(rows)
        points = allowed_points(frame, rows)
        self.assertEqual(rights.allowed(frame), tidy_of(frame, points))
        for point in all_points(frame):
            place = place_by_hand(frame, rows, point)
            self.assertEqual(rights.place_of_no(frame, point), place)
            self.assertIs(rights.is_allowed(frame, point), place is None)
            reasons = [(number, word, holds_by_hand(frame, told, point)) for number, (word, told) in enumerate(rows)]
            self.assertEqual(rights.reasons(frame, point), reasons)
            self.assertTrue(all(type(held) is bool for _, _, held in rights.reasons(frame, point)))
            self.assertIs(rights.are_reasons(frame, point, copied(reasons)), True)

    def test_against_points_one_by_one(self):
        chance = random.Random(52)
        for at in range(120):
            frame = FRAMES[at % len(FRAMES)]
            self.check(frame, some_rows(chance, frame, 6))
        for many in (15, 16):
            self.check(FRAME, (some_rows(chance, FRAME, 16) * 16 + [LET] * 16)[:many])

    def test_no_rows_no_let_and_bars_alone(self):
        for rows in ([], [BAR], [("bar", ALL)], [BAR, ("bar", ("last", 2)), ("bar", ("key", ("q",)))], [LET],
                     [LET, ("bar", ALL)], [("bar", ALL), LET], [("let", ("key", ("q",)))]):
            self.check(FRAME, rows)
        self.assertEqual(Rights([]).allowed(FRAME), [])
        self.assertEqual(Rights([]).place_of_no(FRAME, ("a", 0, 0)), 0)
        self.assertEqual(Rights([BAR]).place_of_no(FRAME, ("a", 0, 0)), 1)
        self.assertEqual(Rights([BAR]).place_of_no(FRAME, ("a", 0, 3)), 0)
        self.assertEqual(Rights([LET, ("bar", ("last", 2)), BAR]).place_of_no(FRAME, ("a", 0, 3)), 1)
        self.assertEqual(Rights([LET, BAR, ("bar", ("last", 2))]).place_of_no(FRAME, ("a", 0, 2)), 2)
        self.assertEqual(Rights([]).reasons(FRAME, ("a", 0, 0)), [])

    def test_new_each_time(self):
        rights = Rights([LET, BAR])
        check_new_each_time(self, rights.allowed, FRAME)
        check_new_each_time(self, rights.reasons, FRAME, ("a", 0, 0))
        self.assertEqual(rights.allowed(frame=FRAME), Rights((LET, BAR)).allowed(Frame(["b", "a"], 5, 4)))

    def test_what_is_no_point(self):
        for rights in (Rights([LET]), Rights([]), Rights([BAR])):
            for thing in NO_POINTS + strange_things():
                for call in (rights.is_allowed, rights.place_of_no, rights.reasons):
                    check_found(self, NoPoint, thing, call, FRAME, thing)
                check_found(self, NoPoint, thing, rights.are_reasons, FRAME, thing, None)

    def test_what_are_no_reasons(self):
        rights = Rights([LET, BAR])
        point = ("a", 0, 0)
        good = [(0, "let", True), (1, "bar", False)]
        self.assertIs(rights.are_reasons(frame=FRAME, point=point, thing=good), True)
        wrong = [tuple(good), good[:1], good + good, good[::-1], [(0, "let", 1), good[1]], [good[0], (True, "bar", False)],
                 [good[0], (1, "bar", 0)], [good[0], [1, "bar", False]], [(False, "let", True), good[1]],
                 [good[0], (1, "bar", True)], [good[0], (1, "bar", None)], [good[0], (1, "let", False)], [(0, "let")],
                 [good[0], (1, "bar", False, 0)], [], None, "", {}, [None, None], [[], []], dict(enumerate(good))]
        for thing in wrong + strange_things():
            self.assertIs(rights.are_reasons(FRAME, point, thing), False, thing)
        for thing in strange_things() + [()]:
            self.assertIs(Rights([]).are_reasons(FRAME, point, thing), thing == [] and isinstance(thing, list))
        self.assertIs(Rights([]).are_reasons(FRAME, point, []), True)
        self.assertIs(rights.are_reasons(FRAME, ("a", 0, 3), good), False)

    def test_a_great_frame(self):
        chance = random.Random(54)
        for many in (1, 8, 16):
            rows = [("let", ("last", 399))] + [(chance.choice(["let", "bar"]), some_told(chance, GREAT, 4))
                                               for _ in range(many - 1)]
            rights = Rights(rows)
            boxes = rights.allowed(GREAT)
            self.assertIs(is_tidy(GREAT, boxes), True)
            for point in great_points(chance, 80):
                place = place_by_hand(GREAT, rows, point)
                self.assertEqual(rights.place_of_no(GREAT, point), place)
                self.assertIs(has_point(boxes, point), place is None)

    def test_the_finest_rights_of_a_great_frame(self):
        day = ("either", ("days", 0, 1), ("days", 2, 3))
        rows = [("let", ("but", ("ends", 2, 0), ("either", day, ("days", at, at + 1)))) for at in range(4, 20, 2)]
        rows += [("bar", ("both", ("turns", at, at + 1), ("days", at, 400))) for at in range(1, 17, 2)]
        boxes = Rights(rows).allowed(GREAT)
        self.assertIs(is_tidy(GREAT, boxes), True)
        for point in great_points(random.Random(55), 100):
            self.assertIs(has_point(boxes, point), place_by_hand(GREAT, rows, point) is None)


class Asking(unittest.TestCase):

    def test_against_readings_one_by_one(self):
        chance = random.Random(53)
        for at in range(60):
            frame = FRAMES[at % len(FRAMES)]
            rows, findings = some_rows(chance, frame, 4), some_findings(chance, frame, 8)
            rights, book, atoms = Rights(rows), Book(frame, findings), atoms_of(findings)
            reader = rights.reader(book=book)
            for point in all_points(frame):
                place = place_by_hand(frame, rows, point)
                for ask in (lambda asked: rights.ask(book=book, point=asked), reader):
                    if place is None:
                        self.assertEqual(ask(point), reading_by_hand(atoms, point))
                    else:
                        error = refusal(self, NotAllowed, ask, point)
                        self.assertIs(error.point, point)
                        self.assertEqual(error.place, place)

    def test_no_point_ahead_of_not_allowed(self):
        book = Book(FRAME, [("a", "x", 0, 5, 0)])
        for rights in (Rights([]), Rights([("bar", ALL)]), Rights([LET])):
            for thing in NO_POINTS + strange_things():
                check_found(self, NoPoint, thing, rights.ask, book, thing)
                check_found(self, NoPoint, thing, rights.reader(book), thing)

    def test_the_books_own_frame(self):
        rights = Rights([("let", ("last", 1))])
        for turns in (1, 4, 400):
            book = Book(Frame(["a"], 2, turns), [("a", "x", 0, 1, 0)])
            self.assertEqual(rights.ask(book, ("a", 0, turns - 1)), ("x", 0))
            self.assertIsNone(rights.ask(book, ("a", 1, turns - 1)))
            point = ("a", 0, turns)
            check_found(self, NoPoint, point, rights.ask, book, point)

    def test_a_reader_by_name_and_for_long(self):
        rights = Rights([LET])
        book = Book(FRAME, [("a", "x", 0, 5, 0)])
        reader = rights.reader(book)
        rights.with_row("bar", ALL)
        rights.without_row(0)
        self.assertEqual(reader(point=("a", 0, 0)), ("x", 0))
        self.assertEqual(reader(("a", 0, 0)), ("x", 0))
        self.assertIsNone(reader(("b", 0, 0)))
