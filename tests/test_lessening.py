"""Points 85 and 86: books poured together and made thin, and books lessened."""

import random
import unittest

from leastlore.books import Book
from leastlore.boxsets import all_boxes, boxes_of
from leastlore.errors import Clash, NoBook, NoBoxes, Unlike
from leastlore.frames import Frame
from leastlore.lessening import lessened, lost_by, poured_thin
from leastlore.pouring import is_thinner, lacking, poured
from leastlore.thinning import thin
from tests.test_books import atoms_of, parts_by_hand, some_findings, some_frame
from tests.test_boxsets import great_boxes, tidy_boxes
from tests.test_pouring import OTHERS, no_books
from tests.test_sources import some_books
from tests.test_speaking import no_tidy
from tests.test_thinning import needed_by_hand
from tests.things import (
    GREAT, all_points, check_fields, check_found, check_new_each_time, copied, points_of, refusal, strange_things,
    tidy_of,
)

FRAME = Frame(["b", "a"], 5, 4)
PARTS = [("b", "x", 0, 5, 1), ("a", "x", 1, 4, 0), ("a", "y", 0, 2, 2), ("a", "z", 3, 4, 2), ("a", "x", 3, 5, 3)]


def some_lesser(chance, frame, boxes):
    """Tidy boxes of some of the points of boxes."""
    if chance.randrange(2):
        return tidy_of(frame, points_of(boxes) & points_of(tidy_boxes(chance, frame, 4)))
    return tidy_of(frame, {point for point in sorted(points_of(boxes)) if chance.randrange(3)})


class PouredThin(unittest.TestCase):

    def test_atom_by_atom_in_any_order_and_in_heaps(self):
        chance = random.Random(85)
        for _ in range(150):
            frame = some_frame(chance)
            books, boxes = some_books(chance, frame, 8), tidy_boxes(chance, frame, 4)
            atoms = {atom: value for book in books for atom, value in atoms_of(book.parts()).items()}
            told = poured_thin(books, boxes)
            self.assertEqual(told.parts(), parts_by_hand(frame, needed_by_hand(atoms, points_of(boxes))))
            self.assertEqual(told.frame.told(), frame.told())
            self.assertEqual(poured_thin([thin(book, boxes) for book in books], boxes).told(), told.told())
            some = [thin(book, boxes) if chance.randrange(2) else book for book in books]
            chance.shuffle(some)
            self.assertEqual(poured_thin(tuple(some), boxes).told(), told.told())
            at = chance.randrange(len(books))
            heap = [poured_thin(some[:at + 1], boxes)] + some[at + 1:]
            self.assertEqual(poured_thin(heap[::-1], boxes).told(), told.told())
            one_by_one = Book(frame, [])
            for book in some:
                one_by_one = poured_thin([one_by_one, book], boxes)
            self.assertEqual(one_by_one.told(), told.told())

    def test_no_boxes_all_points_and_books_without_findings(self):
        book, none = Book(FRAME, PARTS), Book(FRAME, [])
        self.assertEqual(poured_thin(books=[book], boxes=[]).told(), none.told())
        self.assertEqual(poured_thin([book, none] * 4, all_boxes(FRAME)).told(), book.told())
        self.assertEqual(poured_thin([none], all_boxes(FRAME)).told(), none.told())
        now = [("a", 0, 5, 3, 4)]
        self.assertEqual(poured_thin([Book(FRAME, PARTS[1:3]), Book(FRAME, PARTS[3:])], now).parts(),
                         [("a", "x", 2, 3, 0), ("a", "y", 0, 2, 2), ("a", "x", 3, 5, 3)])

    def test_refused_as_poured_then_boxes(self):
        book = Book(FRAME, PARTS)
        clash = [book, Book(FRAME, []), Book(FRAME, [("a", "y", 2, 4, 0)])]
        for thing in strange_things() + [book, [], (), [book] * 9]:
            if not isinstance(thing, (list, tuple)) or not 1 <= len(thing) <= 8:
                check_found(self, NoBook, thing, poured_thin, thing, None)
        for thing in no_books():
            check_found(self, NoBook, thing, poured_thin, (book, thing), None)
        for frame in OTHERS:
            other = Book(frame, [])
            check_found(self, Unlike, other, poured_thin, [*clash, other], None)
        check_fields(self, Clash, {"at": 2, "other": 0}, poured_thin, clash, None)
        check_fields(self, Clash, {"at": 2, "other": 0}, poured_thin, clash, [])
        for thing in no_tidy():
            check_found(self, NoBoxes, thing, poured_thin, [book, book], thing)


class Lessened(unittest.TestCase):

    def test_atom_by_atom_at_once_and_step_by_step(self):
        chance = random.Random(86)
        gone = 0
        for _ in range(200):
            frame = some_frame(chance)
            book, one = Book(frame, some_findings(chance, frame, 9)), tidy_boxes(chance, frame, 5)
            other = some_lesser(chance, frame, one)
            atoms = atoms_of(book.parts())
            before = needed_by_hand(atoms, points_of(one))
            behind = needed_by_hand(atoms, points_of(other))
            lost = {atom: before[atom] for atom in before if atom not in behind}
            told, went = lessened(book, one, other), lost_by(book, one, other)
            self.assertEqual(told.parts(), parts_by_hand(frame, behind))
            self.assertEqual(went, parts_by_hand(frame, lost))
            thinned = thin(book, one)
            self.assertEqual(lessened(thinned, one, other).told(), told.told())
            self.assertEqual(lost_by(thinned, one, other), went)
            self.assertEqual(lacking(thinned, told), went)
            # What goes and what is left are together what was there, and have nothing in common.
            self.assertEqual({**lost, **behind}, before)
            self.assertEqual(poured([told, Book(frame, went)]).told(), thinned.told())
            last = some_lesser(chance, frame, other)
            self.assertEqual(lessened(told, other, last).told(), lessened(book, one, last).told())
            self.assertIs(is_thinner(lessened(book, one, last), told), True)
            gone += bool(went)
        self.assertGreater(gone, 60)

    def test_the_same_boxes_none_and_all(self):
        book, whole = Book(FRAME, PARTS), all_boxes(FRAME)
        now = [("b", 0, 5, 3, 4), ("a", 0, 5, 3, 4)]
        for boxes in (whole, now, []):
            self.assertEqual(lessened(book=book, one=boxes, other=copied(boxes)).told(), thin(book, boxes).told())
            self.assertEqual(lost_by(book=book, one=boxes, other=boxes), [])
            self.assertEqual(lessened(book, boxes, []).parts(), [])
            self.assertEqual(lost_by(book, boxes, []), thin(book, boxes).parts())
        self.assertEqual(lost_by(book, whole, now), [("a", "x", 1, 2, 0), ("a", "x", 3, 4, 0), ("a", "z", 3, 4, 2)])
        self.assertEqual(lessened(book, whole, now).told(), thin(book, now).told())
        self.assertEqual(lost_by(Book(FRAME, []), whole, now), [])

    def test_a_point_more_and_boxes_beside(self):
        book = Book(FRAME, PARTS)
        one = [("a", 1, 3, 1, 3)]
        for point in all_points(FRAME):
            other = tidy_of(FRAME, points_of(one) | {point})
            if point in points_of(one):
                self.assertEqual(lessened(book, one, other).told(), thin(book, one).told())
            else:
                for call in (lessened, lost_by):
                    check_found(self, Unlike, other, call, book, one, other)
                    alone = tidy_of(FRAME, {point})
                    check_found(self, Unlike, alone, call, book, one, alone)
                    check_found(self, Unlike, alone, call, book, [], alone)
        for other in ([("a", 3, 5, 1, 3)], [("a", 1, 3, 3, 4)], [("b", 1, 3, 1, 3)], [("a", 0, 3, 1, 3)],
                      all_boxes(FRAME)):
            check_found(self, Unlike, other, lessened, book, one, other)
            check_found(self, Unlike, other, lost_by, Book(FRAME, []), one, other)

    def test_refused(self):
        book, whole = Book(FRAME, PARTS), all_boxes(FRAME)
        for call in (lessened, lost_by):
            for thing in no_books():
                check_found(self, NoBook, thing, call, thing, whole, whole)
                check_found(self, NoBook, thing, call, thing, None, None)
            for thing in no_tidy():
                check_found(self, NoBoxes, thing, call, book, thing, None)
                check_found(self, NoBoxes, thing, call, book, thing, whole)
                check_found(self, NoBoxes, thing, call, book, whole, thing)
                check_found(self, NoBoxes, thing, call, book, [], thing)
            refusal(self, Unlike, call, book, [], [("a", 0, 1, 0, 1)])

    def test_new_each_time(self):
        book, one = Book(FRAME, PARTS), all_boxes(FRAME)
        check_new_each_time(self, lost_by, book, one, [("a", 0, 5, 3, 4)])
        self.assertEqual(book.parts(), PARTS)
        self.assertEqual(one, all_boxes(FRAME))

    def test_in_a_great_frame(self):
        chance = random.Random(861)
        findings = []
        while len(findings) < 300:
            findings = some_findings(chance, GREAT, 500)[:320]
        book = Book(GREAT, findings)
        one, other = boxes_of(GREAT, great_boxes(chance)), boxes_of(GREAT, [("ka", 100, 200, 398, 400)])
        both = boxes_of(GREAT, one + other)
        self.assertEqual(lessened(book, both, one).told(), thin(book, one).told())
        self.assertEqual(lessened(thin(book, both), both, other).told(), thin(book, other).told())
        went = lost_by(book, both, other)
        self.assertEqual(len(atoms_of(went)) + lessened(book, both, other).how_many_atoms(),
                         thin(book, both).how_many_atoms())
