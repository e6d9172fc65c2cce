"""Points 71 and 72: books made thin."""

import itertools
import random
import unittest

from leastlore.books import Book, same_book
from leastlore.boxsets import all_boxes, boxes_of
from leastlore.errors import NoBoxes, NoBook
from leastlore.frames import Frame
from leastlore.pouring import is_thinner
from leastlore.thinning import is_thin, thin
from tests.rulemaking import great_points
from tests.test_books import atoms_of, cut_up, parts_by_hand, reading_by_hand, some_findings, some_frame
from tests.test_boxsets import great_boxes, tidy_boxes
from tests.test_speaking import no_tidy
from tests.things import GREAT, check_found, points_of, strange_things, tidy_of

FRAME = Frame(["b", "a"], 5, 4)
FINDINGS = [("b", "x", 0, 5, 1), ("a", "x", 1, 4, 0), ("a", "y", 0, 2, 2), ("a", "z", 3, 4, 2), ("a", "x", 3, 5, 3)]


def needed_by_hand(atoms, points):
    """The atoms that speak at some of the points, by going through them."""
    told = {}
    for key, day, turn in points:
        reading = reading_by_hand(atoms, (key, day, turn))
        if reading is not None:
            told[(key, day, reading[1])] = reading[0]
    return told


class Thin(unittest.TestCase):

    def test_atom_by_atom(self):
        chance = random.Random(71)
        for _ in range(200):
            frame = some_frame(chance)
            findings, boxes = some_findings(chance, frame, 9), tidy_boxes(chance, frame, 4)
            book, atoms, points = Book(frame, findings), atoms_of(findings), points_of(boxes)
            told = thin(book, boxes)
            needed = needed_by_hand(atoms, points)
            self.assertEqual(told.parts(), parts_by_hand(frame, needed))
            self.assertEqual(told.frame.told(), frame.told())
            for point in points:
                self.assertEqual(told.read(point), book.read(point))
            self.assertEqual(thin(told, boxes).told(), told.told())
            self.assertIs(is_thin(book, boxes, told), True)
            self.assertIs(is_thin(told, boxes, told), True)
            self.assertIs(is_thin(book, boxes, book), needed == atoms)
            self.assertEqual(book.parts(), parts_by_hand(frame, atoms))

    def test_each_other_book_that_reads_so_has_all_its_atoms(self):
        chance = random.Random(72)
        done = 0
        while done < 40:
            frame = Frame(["b", "a"], 3, 3)
            atoms = atoms_of(some_findings(chance, frame, 5))
            if not 2 <= len(atoms) <= 8:
                continue
            done += 1
            boxes = tidy_boxes(chance, frame, 3)
            points = points_of(boxes)
            book = Book(frame, parts_by_hand(frame, atoms))
            readings = {point: reading_by_hand(atoms, point) for point in points}
            least = atoms_of(thin(book, boxes).parts())
            for many in range(len(atoms) + 1):
                for kept in itertools.combinations(sorted(atoms), many):
                    some = {atom: atoms[atom] for atom in kept}
                    if all(reading_by_hand(some, point) == readings[point] for point in points):
                        self.assertLessEqual(least.keys(), some.keys())
            self.assertTrue(all(reading_by_hand(least, point) == readings[point] for point in points))

    def test_no_boxes_all_points_and_books_without_findings(self):
        book, none = Book(FRAME, FINDINGS), Book(FRAME, [])
        self.assertEqual(thin(book=book, boxes=[]).told(), none.told())
        self.assertEqual(thin(book, all_boxes(FRAME)).told(), book.told())
        self.assertEqual(thin(none, all_boxes(FRAME)).told(), none.told())
        self.assertIs(is_thin(book=book, boxes=[], thing=none), True)
        self.assertIs(is_thin(book, [], book), False)

    def test_needed_on_some_days_on_all_and_on_none(self):
        findings = [("a", "x", 0, 5, 0), ("a", "y", 1, 3, 2)]
        book = Book(FRAME, findings)
        now = [("b", 0, 5, 3, 4), ("a", 0, 5, 3, 4)]
        self.assertEqual(thin(book, now).parts(), [("a", "x", 0, 1, 0), ("a", "x", 3, 5, 0), ("a", "y", 1, 3, 2)])
        self.assertEqual(thin(book, [("a", 0, 5, 0, 1)]).parts(), findings[:1])
        self.assertEqual(thin(book, [("a", 1, 3, 2, 4)]).parts(), findings[1:])
        self.assertEqual(thin(book, [("a", 1, 2, 1, 2), ("a", 2, 3, 3, 4)]).parts(),
                         [("a", "x", 1, 2, 0), ("a", "y", 2, 3, 2)])
        self.assertEqual(thin(Book(FRAME, [("a", "x", 0, 5, 2)]), [("a", 0, 5, 0, 2)]).parts(), [])

    def test_lesser_boxes_make_the_same_of_what_is_thin_already(self):
        chance = random.Random(73)
        for _ in range(60):
            frame = some_frame(chance)
            book = Book(frame, some_findings(chance, frame, 9))
            greater = tidy_boxes(chance, frame, 5)
            lesser = tidy_of(frame, {point for point in points_of(greater) if chance.randrange(3)})
            self.assertIs(same_book(thin(thin(book, greater), lesser), thin(book, lesser)), True)
            self.assertIs(is_thinner(thin(book, lesser), thin(book, greater)), True)

    def test_refused(self):
        book = Book(FRAME, FINDINGS)
        wrong = strange_things() + [book.told(), Book, FINDINGS, FRAME]
        for thing in wrong:
            check_found(self, NoBook, thing, thin, thing, [])
            check_found(self, NoBook, thing, thin, thing, None)
            check_found(self, NoBook, thing, is_thin, thing, None, book)
        for thing in no_tidy():
            check_found(self, NoBoxes, thing, thin, book, thing)
            check_found(self, NoBoxes, thing, is_thin, book, thing, None)

    def test_any_thing_as_the_thin_book(self):
        book = Book(FRAME, FINDINGS)
        boxes = [("a", 0, 5, 3, 4)]
        told = thin(book, boxes)
        for thing in strange_things() + [told.told(), told.parts(), book, None, Book, FRAME, Book(FRAME, []),
                                         Book(Frame(["a", "b"], 5, 4), told.parts()),
                                         Book(Frame(["b", "a"], 5, 5), told.parts()),
                                         Book(Frame(["b", "a"], 6, 4), told.parts())]:
            self.assertIs(is_thin(book, boxes, thing), False, thing)
        again = Book(Frame(("b", "a"), 5, 4), cut_up(random.Random(1), told.parts()))
        self.assertIs(is_thin(book, boxes, again), True)

    def test_as_many_as_may_be_in_a_great_frame(self):
        chance = random.Random(74)
        findings = []
        while len(findings) < 300:
            findings = some_findings(chance, GREAT, 500)[:320]
        book, boxes = Book(GREAT, findings), boxes_of(GREAT, great_boxes(chance))
        told = thin(book, boxes)
        self.assertIs(is_thin(told, boxes, told), True)
        self.assertIs(is_thinner(told, book), True)
        atoms, least = atoms_of(findings), atoms_of(told.parts())
        for key, day, turn in great_points(chance, 300) + [(box[0], box[1], box[3]) for box in boxes]:
            if any(box[0] == key and box[1] <= day < box[2] and box[3] <= turn < box[4] for box in boxes):
                self.assertEqual(reading_by_hand(least, (key, day, turn)), reading_by_hand(atoms, (key, day, turn)))

    def test_a_thin_book_of_thousands_of_parts(self):
        book = Book(GREAT, [("ka", "x", at, 400, at) for at in range(320)])
        comb = boxes_of(GREAT, [("ka", day, day + 1, 0, 400) for day in range(0, 400, 2)])
        told = thin(book, comb)
        self.assertEqual(told.how_many_atoms(), sum(len(range(at + at % 2, 400, 2)) for at in range(320)))
        self.assertEqual(len(told.parts()), told.how_many_atoms())
        self.assertIs(same_book(thin(told, comb), told), True)
