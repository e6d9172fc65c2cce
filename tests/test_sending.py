"""Points 111 to 115: checks of keys, rows that are sent, and rows that are put in."""

import random
import unittest

from leastlore.books import Book
from leastlore.boxsets import all_boxes
from leastlore.errors import NoBook, NoBoxes, NoPart, NoRow, NotThinner
from leastlore.frames import Frame
from leastlore.pouring import poured
from leastlore.sending import check_for, is_row, key_checks, keys_unlike, put_in, rows_for
from leastlore.thinning import thin
from tests.pagemaking import MOST, check_once, page_by_hand, with_strange
from tests.test_books import atoms_of, cut_up, parts_by_hand, some_findings, some_frame
from tests.test_boxsets import tidy_boxes
from tests.test_checks import NOT_SMALL
from tests.test_findings import NO_FINDINGS
from tests.test_pouring import book_of_atoms, no_books, some_atoms
from tests.test_speaking import no_tidy
from tests.test_thinning import needed_by_hand
from tests.things import (
    GREAT, check_fields, check_found, check_new_each_time, copied, points_of, refusal, strange_things,
)

FRAME = Frame(["b", "a", "c"], 5, 4)
PARTS = [("b", "x", 0, 5, 1), ("a", "x", 1, 4, 0), ("a", "y", 0, 2, 2), ("a", "z", 3, 4, 2), ("a", "x", 3, 5, 3)]
BOOK = Book(FRAME, PARTS)
NONE = Book(FRAME, [])


def check_by_findings(frame, key, findings):
    """The check by the words of point 111."""
    check = frame.key_names().index(key)
    for finding in findings:
        check = check_once((check, *page_by_hand(frame, finding)))
    return check


def row_by_hand(frame, parts):
    return (parts[0][0], list(parts), check_by_findings(frame, parts[0][0], parts))


def rows_by_hand(frame, atoms):
    """The rows that tell some atoms, by the words of point 113."""
    parts = parts_by_hand(frame, atoms)
    by_key = [[part for part in parts if part[0] == key] for key in frame.key_names()]
    return [row_by_hand(frame, mine) for mine in by_key if mine]


def no_rows(frame=FRAME):
    """Any things that are no rows of the frame."""
    good = row_by_hand(frame, PARTS[1:])
    key, parts, check = good
    untidy = [
        [("a", "x", 0, 2, 1), ("a", "x", 2, 3, 1)], [("a", "x", 0, 2, 1), ("a", "x", 0, 2, 1)],
        [("a", "x", 0, 2, 1), ("a", "x", 1, 3, 1)], [("a", "x", 0, 2, 1), ("a", "y", 1, 3, 1)],
        [("a", "x", 3, 4, 1), ("a", "x", 0, 2, 1)], [("a", "x", 0, 1, 2), ("a", "x", 0, 1, 1)],
    ]
    wrong = [(key, mine, check_by_findings(frame, key, mine)) for mine in untidy]
    wrong += [
        [key, parts, check], (key, parts), (key, parts, check, 0), (key, tuple(parts), check), (key, [], 1),
        (key, parts[::-1], check_by_findings(frame, key, parts[::-1])), (key, parts[1:], check), (key, parts, check + 1),
        (key, parts, check ^ 1), (key, parts, str(check)), (key, parts, None), (key, parts, [check]), (key, None, check),
        (key, parts, -1), (key, parts, 2 ** 32), (key, parts, True), (key, [list(part) for part in parts], check),
        ("b", parts, check), ("b", PARTS, check_by_findings(frame, "b", PARTS)), ("q", parts, check),
        (["a"], parts, check), (None, parts, check), (0, parts, check), (key, PARTS, check), (key, {}, check),
        (key, [parts[0], None], check), (key, ["x"], check), (key, [()], check), (key, parts[0], check),
        (key, [("a", "x", True, 4, 0), *parts[1:]], check), (key, [("a", "x", 1, 4, False), *parts[1:]], check),
        (key, [("q", "x", 0, 1, 0)], check), (key, [("a", "x", 0, 6, 0)], check), (key, [("a", "x", 0, 1, 4)], check),
        ("c", [("c", "x", 0, 1, 0)], 0), NONE, Frame, PARTS,
    ]
    return wrong + strange_things()


class Checks(unittest.TestCase):

    def test_page_by_page(self):
        chance = random.Random(111)
        for _ in range(60):
            frame = some_frame(chance)
            book = Book(frame, some_findings(chance, frame, 9))
            expected = []
            for key in frame.key_names():
                parts = book.parts_of(key)
                self.assertEqual(check_for(frame, key, parts), check_by_findings(frame, key, parts))
                if parts:
                    expected.append((key, check_by_findings(frame, key, parts)))
            self.assertEqual(key_checks(book), expected)

    def test_no_findings_and_their_order(self):
        for place, key in enumerate(FRAME.key_names()):
            self.assertEqual(check_for(frame=FRAME, key=key, findings=[]), place)
        one, other = ("a", "x", 0, 1, 0), ("a", "x", 2, 3, 0)
        self.assertNotEqual(check_for(FRAME, "a", [one, other]), check_for(FRAME, "a", [other, one]))
        self.assertEqual(check_for(FRAME, "a", [other, one]), check_by_findings(FRAME, "a", [other, one]))
        self.assertEqual(check_for(FRAME, "a", [one, one]), check_by_findings(FRAME, "a", [one, one]))

    def test_keys_without_parts(self):
        self.assertEqual(key_checks(book=NONE), [])
        self.assertEqual([key for key, _ in key_checks(BOOK)], ["b", "a"])
        self.assertEqual(check_new_each_time(self, key_checks, BOOK),
                         [("b", check_by_findings(FRAME, "b", PARTS[:1])),
                          ("a", check_by_findings(FRAME, "a", PARTS[1:]))])

    def test_one_number_changed_makes_another_check(self):
        for finding in (("a", "x", 1, 3, 2), ("a", "abcdefghijkl", 0, 5, 3)):
            check = check_for(FRAME, "a", [finding])
            for other in (("a", finding[1], 0, 4, 1), ("a", "y", *finding[2:]), ("a", finding[1] + "9", *finding[2:]),
                          ("a", *finding[1:4], 0), ("a", finding[1], 2, *finding[3:]), ("a", *finding[1:3], 4, 0)):
                if len(other[1]) <= 12 and other != finding:
                    self.assertNotEqual(check_for(FRAME, "a", [other]), check)

    def test_no_book(self):
        for thing in no_books():
            check_found(self, NoBook, thing, key_checks, thing)
            check_found(self, NoBook, thing, keys_unlike, thing, [])
            check_found(self, NoBook, thing, keys_unlike, thing, None)


class Unlike(unittest.TestCase):

    def test_by_parts_of_each_key(self):
        chance = random.Random(112)
        for _ in range(150):
            frame = some_frame(chance)
            one = Book(frame, some_findings(chance, frame, 6))
            other = Book(frame, [part for part in one.parts() if chance.randrange(3)]
                         + (some_findings(chance, frame, 1) if not one.parts() else []))
            checks = key_checks(other)
            before = copied(checks)
            told = keys_unlike(one, checks)
            # Unlike checks tell it surely; that no unlike books of this test had like ones is seen here, too.
            self.assertEqual(told, [key for key in frame.key_names() if one.parts_of(key) != other.parts_of(key)])
            self.assertEqual(checks, before)
            self.assertEqual(keys_unlike(one, key_checks(one)), [])

    def test_a_key_that_one_hasnt(self):
        self.assertEqual(keys_unlike(book=BOOK, checks=[]), ["b", "a"])
        self.assertEqual(keys_unlike(NONE, key_checks(BOOK)), ["b", "a"])
        self.assertEqual(keys_unlike(NONE, []), [])
        checks = key_checks(BOOK)
        self.assertEqual(keys_unlike(BOOK, checks[:1]), ["a"])
        self.assertEqual(keys_unlike(BOOK, [("b", checks[0][1] ^ 1), checks[1], ("c", 0)]), ["b", "c"])
        self.assertEqual(keys_unlike(BOOK, [*checks, ("c", MOST)]), ["c"])
        check_new_each_time(self, keys_unlike, BOOK, [("c", 2)])

    def test_a_check_of_nought(self):
        # A key without parts has no check, be it told as nought or as its place.
        for check in (0, 1, 2):
            self.assertEqual(keys_unlike(NONE, [("b", check)]), ["b"])

    def test_no_checks(self):
        good = key_checks(BOOK)
        wrong = [tuple(good), good[::-1], good + good[-1:], [good[0], good[0]], [list(good[0])], [good[0][:1]],
                 [good[0] + (0,)], [("q", 1)], [(["a"], 1)], [(None, 1)], [(0, 1)], dict(good), "", None, 0, (), {},
                 [("c", 1), ("a", 1)], good + [None], [good], BOOK]
        wrong += [[("b", 1), ("a", check)] for check in NOT_SMALL]
        for thing in wrong + [thing for thing in strange_things() if thing != []]:
            check_found(self, NoRow, thing, keys_unlike, BOOK, thing)


class Rows(unittest.TestCase):

    def test_is_row(self):
        chance = random.Random(113)
        for _ in range(60):
            frame = some_frame(chance)
            for row in rows_by_hand(frame, atoms_of(some_findings(chance, frame, 9))):
                self.assertIs(is_row(frame, row), True)
                key, parts, check = row
                self.assertIs(is_row(frame, (key, parts, (check + 1) % 2 ** 32)), False)
                if len(parts) > 1:
                    self.assertIs(is_row(frame, (key, parts[::-1], check_for(frame, key, parts[::-1]))), False)
        self.assertIs(is_row(frame=FRAME, thing=row_by_hand(FRAME, PARTS[1:])), True)
        for thing in no_rows():
            self.assertIs(is_row(FRAME, thing), False, thing)

    def test_a_row_of_another_frame(self):
        row = row_by_hand(GREAT, [("kb", "x", 0, 5, 3)])
        self.assertIs(is_row(GREAT, row), True)
        self.assertIs(is_row(FRAME, row), False)
        # The check hangs on the key's place.
        row = row_by_hand(Frame(["a", "b", "c"], 5, 4), PARTS[1:])
        self.assertIs(is_row(FRAME, row), False)

    def test_sent_atom_by_atom(self):
        chance = random.Random(1131)
        sent = 0
        for _ in range(200):
            frame = some_frame(chance)
            book, boxes = Book(frame, some_findings(chance, frame, 9)), tidy_boxes(chance, frame, 5)
            atoms = atoms_of(book.parts())
            whole = atoms if chance.randrange(2) else needed_by_hand(atoms, points_of(boxes))
            had = some_atoms(chance, whole) if chance.randrange(4) else dict(whole)
            told = cut_up(chance, parts_by_hand(frame, had))
            before = copied(told)
            rows = rows_for(book, told, *([boxes] if whole is not atoms else []))
            less = {atom: whole[atom] for atom in whole if atom not in had}
            self.assertEqual(rows, rows_by_hand(frame, less))
            self.assertEqual([type(parts) for _, parts, _ in rows], [list] * len(rows))
            self.assertEqual(told, before)
            other = book_of_atoms(frame, had)
            self.assertEqual(rows_for(book, tuple(other.parts()), None if whole is atoms else boxes), rows)
            behind = put_in(other, rows)
            self.assertEqual(behind.parts(), parts_by_hand(frame, whole))
            self.assertEqual(behind.told(), (book if whole is atoms else thin(book, boxes)).told())
            self.assertEqual(other.parts(), parts_by_hand(frame, had))
            for row in rows:
                self.assertIs(is_row(frame, row), True)
            sent += bool(rows)
        self.assertGreater(sent, 80)

    def test_no_rows_and_rows_of_all_keys(self):
        self.assertEqual(rows_for(BOOK, PARTS), [])
        self.assertEqual(rows_for(BOOK, [PARTS[0], PARTS[0], ("b", "x", 1, 2, 1), *PARTS[1:]]), [])
        self.assertEqual(rows_for(book=NONE, told=(), boxes=None), [])
        self.assertEqual(rows_for(BOOK, [], []), [])
        self.assertEqual(rows_for(BOOK, [], all_boxes(FRAME)), rows_for(BOOK, []))
        self.assertEqual(rows_for(BOOK, []), [row_by_hand(FRAME, PARTS[:1]), row_by_hand(FRAME, PARTS[1:])])
        every = Book(FRAME, [(key, "x", 0, 5, 0) for key in "abc"])
        self.assertEqual([key for key, _, _ in rows_for(every, [])], ["b", "a", "c"])
        self.assertEqual(rows_for(every, [("a", "x", 1, 2, 0)])[1][1], [("a", "x", 0, 1, 0), ("a", "x", 2, 5, 0)])
        self.assertEqual(put_in(book=every, rows=[]).told(), every.told())
        self.assertEqual(put_in(every, ()).told(), every.told())

    def test_refused_in_order(self):
        had = [PARTS[0], PARTS[2]]
        for thing in no_books():
            check_found(self, NoBook, thing, rows_for, thing, None, None)
            check_found(self, NoBook, thing, rows_for, thing, had)
        for thing in with_strange(["", 0, {PARTS[0]: 1}, BOOK]):
            if not isinstance(thing, (list, tuple)):
                check_found(self, NoPart, thing, rows_for, BOOK, thing, "no boxes")
        for thing in NO_FINDINGS + strange_things():
            if thing != ("c", "x", 0, 1, 0):
                check_found(self, NoPart, thing, rows_for, BOOK, [("a", "w", 0, 1, 0), thing, None], "no boxes")
        for thing in no_tidy():
            if thing is not None and thing != [("c", 0, 1, 0, 1)]:
                check_found(self, NoBoxes, thing, rows_for, BOOK, [("a", "w", 0, 1, 0)], thing)
        for part in (("a", "w", 0, 1, 0), ("a", "x", 1, 4, 1), ("a", "x", 1, 5, 0), ("a", "x", 0, 4, 0), ("b", "y", 0, 5, 1),
                     ("c", "x", 0, 1, 0), ("a", "z", 2, 4, 2)):
            error = refusal(self, NotThinner, rows_for, BOOK, [*had, part, ("a", "v", 0, 1, 0)])
            self.assertIs(error.part, part)
            self.assertIs(refusal(self, NotThinner, rows_for, BOOK, (part,), all_boxes(FRAME)).part, part)
        now = [("b", 0, 5, 3, 4), ("a", 0, 5, 3, 4)]
        check_fields(self, NotThinner, {"part": PARTS[1]}, rows_for, BOOK, [PARTS[0], PARTS[1], PARTS[3]], now)
        self.assertEqual(rows_for(BOOK, [PARTS[0], ("a", "x", 2, 3, 0)], now),
                         [row_by_hand(FRAME, [PARTS[2], PARTS[4]])])
        check_fields(self, NotThinner, {"part": PARTS[0]}, rows_for, BOOK, PARTS, [])

    def test_what_is_told_is_the_askers_own(self):
        told = [PARTS[0]]
        rows = check_new_each_time(self, rows_for, BOOK, told)
        again = rows_for(BOOK, told)
        again[0][1].clear()
        told.clear()
        self.assertEqual(rows_for(BOOK, [PARTS[0]]), rows)
        self.assertEqual(BOOK.parts(), PARTS)


class PuttingIn(unittest.TestCase):

    def test_atom_by_atom(self):
        chance = random.Random(114)
        refused = 0
        for _ in range(200):
            frame = some_frame(chance)
            mine = atoms_of(some_findings(chance, frame, 6))
            theirs = atoms_of(some_findings(chance, frame, 4))
            book, rows = book_of_atoms(frame, mine), rows_by_hand(frame, theirs)
            wrong = [row for row in rows if any(mine.get(atom, value) != value
                                                for atom, value in atoms_of(row[1]).items())]
            if wrong:
                refused += 1
                check_found(self, NoRow, wrong[0], put_in, book, rows)
            else:
                self.assertEqual(put_in(book, rows).parts(), parts_by_hand(frame, {**mine, **theirs}))
                self.assertEqual(put_in(book, tuple(rows)).told(), poured([book, book_of_atoms(frame, theirs)]).told())
            self.assertEqual(book.parts(), parts_by_hand(frame, mine))
        self.assertGreater(refused, 20)

    def test_no_rows_in_order(self):
        first, second = row_by_hand(FRAME, PARTS[:1]), row_by_hand(FRAME, PARTS[1:])
        clash = row_by_hand(FRAME, [("b", "y", 0, 1, 1)])
        for thing in no_books():
            check_found(self, NoBook, thing, put_in, thing, None)
        for thing in with_strange(["", 0, {"a": 1}, BOOK]):
            if not isinstance(thing, (list, tuple)):
                check_found(self, NoRow, thing, put_in, BOOK, thing)
        for thing in no_rows():
            check_found(self, NoRow, thing, put_in, BOOK, [thing])
            check_found(self, NoRow, thing, put_in, BOOK, (clash, thing, None))
        third = row_by_hand(FRAME, [("c", "x", 0, 1, 0)])
        self.assertEqual(put_in(NONE, [first, second, third]).parts(), [*PARTS, ("c", "x", 0, 1, 0)])
        for rows, at in (([second, first], 1), ([first, first], 1), ([third, second], 1), ([first, third, third], 2),
                         ([first, third, second], 2), ([clash, second, first], 2), ([first, copied(first)], 1)):
            check_found(self, NoRow, rows[at], put_in, BOOK, rows)
        check_found(self, NoRow, clash, put_in, BOOK, [clash, second])
        other = row_by_hand(FRAME, [("a", "x", 0, 5, 0), ("a", "x", 4, 5, 2), ("a", "q", 4, 5, 3)])
        check_found(self, NoRow, other, put_in, BOOK, [first, other, third])

    def test_what_was_changed_on_the_way(self):
        rows = rows_for(BOOK, [])
        for at, (key, parts, check) in enumerate(rows):
            for place in range(32):
                changed = rows[:at] + [(key, parts, check ^ 2 ** place)] + rows[at + 1:]
                check_found(self, NoRow, changed[at], put_in, NONE, changed)
            for number, (name, value, begin, end, known) in enumerate(parts):
                for part in ((name, "q", begin, end, known), (name, value, begin, end, (known + 1) % 4),
                             (name, value, begin + 1, end, known), (name, value, begin, end - 1, known)):
                    changed = list(rows)
                    changed[at] = (key, parts[:number] + [part] + parts[number + 1:], check)
                    check_found(self, NoRow, changed[at], put_in, NONE, changed)

    def test_rows_are_not_kept(self):
        rows = rows_for(BOOK, [])
        told = put_in(NONE, rows)
        before = copied(rows)
        rows[0][1].clear()
        self.assertEqual(told.told(), BOOK.told())
        self.assertEqual(put_in(NONE, before).told(), BOOK.told())

    def test_in_a_great_frame(self):
        book = Book(GREAT, [(key, "v" + str(turn), turn, 400 - turn % 3, turn)
                            for key in GREAT.key_names() for turn in range(0, 390, 15)])
        had = Book(GREAT, book.parts()[::2])
        rows = rows_for(book, had.parts())
        self.assertEqual(put_in(had, rows).told(), book.told())
        self.assertEqual(rows, rows_by_hand(GREAT, atoms_of(book.parts()[1::2])))
        self.assertEqual(keys_unlike(book, key_checks(had)), GREAT.key_names())
