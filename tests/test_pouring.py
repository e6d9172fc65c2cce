"""Points 81 to 83: books poured together, what one lacks of another, books without parts."""

import random
import unittest

from leastlore.books import Book, same_book
from leastlore.errors import Clash, NoBook, NoPart, Unlike
from leastlore.frames import Frame
from leastlore.pouring import is_thinner, lacking, poured, shared, without_parts
from tests.test_books import atoms_of, parts_by_hand, some_findings, some_frame
from tests.test_findings import NO_FINDINGS
from tests.test_speaking import NO_PARTS, PARTS
from tests.things import (
    GREAT, check_fields, check_found, check_new_each_time, copied, refusal, strange_things,
)

FRAME = Frame(["b", "a"], 5, 4)
OTHERS = [Frame(["a", "b"], 5, 4), Frame(["b", "a"], 6, 4), Frame(["b", "a"], 5, 5), Frame(["b"], 5, 4),
          Frame(["b", "a", "c"], 5, 4), Frame(["b", "c"], 5, 4)]


def book_of_atoms(frame, atoms):
    return Book(frame, parts_by_hand(frame, atoms))


def some_atoms(chance, atoms):
    return {atom: atoms[atom] for atom in atoms if chance.randrange(2)}


def clash_by_hand(books):
    """Both numbers of the clash by the words of point 81, or None."""
    atoms = [atoms_of(book.parts()) for book in books]
    for at in range(len(books)):
        for other in range(at):
            if any(atoms[other].get(atom, atoms[at][atom]) != atoms[at][atom] for atom in atoms[at]):
                return {"at": at, "other": other}
    return None


def no_books():
    return strange_things() + [Book, FRAME, Book(FRAME, []).told(), [("a", "x", 0, 1, 0)]]


class Poured(unittest.TestCase):

    def test_atom_by_atom(self):
        chance = random.Random(81)
        for _ in range(120):
            frame = some_frame(chance)
            atoms = atoms_of(some_findings(chance, frame, 9))
            shares = [some_atoms(chance, atoms) for _ in range(chance.randrange(1, 9))]
            books = [book_of_atoms(frame, share) for share in shares]
            before = [book.told() for book in books]
            told = poured(books)
            whole = {atom: atoms[atom] for share in shares for atom in share}
            self.assertEqual(told.parts(), parts_by_hand(frame, whole))
            self.assertEqual(told.frame.told(), frame.told())
            self.assertIs(same_book(poured(tuple(reversed(books))), told), True)
            self.assertEqual([book.told() for book in books], before)

    def test_clashes_by_hand(self):
        chance = random.Random(811)
        clashes = 0
        for _ in range(300):
            frame = some_frame(chance)
            books = [Book(frame, some_findings(chance, frame, 2)) for _ in range(chance.randrange(2, 6))]
            fields = clash_by_hand(books)
            if fields is None:
                poured(books)
            else:
                clashes += fields["other"] > 0
                check_fields(self, Clash, fields, poured, books)
        self.assertGreater(clashes, 20)

    def test_clashes(self):
        one = Book(FRAME, [("a", "x", 0, 2, 0)])
        none = Book(FRAME, [("b", "x", 0, 2, 0), ("a", "y", 2, 3, 0), ("a", "y", 0, 2, 1)])
        two = Book(FRAME, [("a", "z", 3, 4, 0)])
        third = Book(FRAME, [("a", "y", 3, 4, 0)])
        check_fields(self, Clash, {"at": 2, "other": 1}, poured, [one, two, third])
        check_fields(self, Clash, {"at": 3, "other": 2}, poured, (one, none, two, third, two))
        # The third says otherwise than the second first, but otherwise than the first as well.
        last = Book(FRAME, [("b", "y", 0, 1, 0), ("a", "y", 1, 2, 0)])
        check_fields(self, Clash, {"at": 2, "other": 0}, poured, [one, none, last])
        self.assertEqual(poured([one, none]).how_many_atoms(), 7)

    def test_one_eight_the_same_and_touching(self):
        book = Book(FRAME, PARTS)
        self.assertEqual(poured(books=[book]).told(), book.told())
        self.assertEqual(poured([book] * 8).told(), book.told())
        self.assertEqual(poured((book, Book(Frame(("b", "a"), 5, 4), PARTS[:2]))).told(), book.told())
        days = [Book(FRAME, [("a", "x", day, day + 1, 0)]) for day in (4, 2, 0, 3, 1)]
        self.assertEqual(poured(days).parts(), [("a", "x", 0, 5, 0)])
        self.assertEqual(poured([Book(FRAME, [])] * 2).parts(), [])

    def test_refused_whole(self):
        book = Book(FRAME, PARTS)
        for thing in strange_things() + [book, (), [], [book] * 9, (book,) * 9, [None] * 9, {book: book}]:
            if not isinstance(thing, (list, tuple)) or not 1 <= len(thing) <= 8:
                check_found(self, NoBook, thing, poured, thing)

    def test_the_first_that_is_no_book_then_the_first_of_another_frame(self):
        book = Book(FRAME, PARTS)
        for thing in no_books():
            for books in ([thing], (book, thing, None), [book, Book(OTHERS[0], []), thing, Book(FRAME, [])]):
                check_found(self, NoBook, thing, poured, books)
        for frame in OTHERS:
            other = Book(frame, [])
            check_found(self, Unlike, other, poured, [book, other])
            check_found(self, Unlike, other, poured, (book, book, other, Book(OTHERS[0], [])))
            check_found(self, Unlike, other, poured, [book, Book(FRAME, [("b", "w", 0, 5, 1)]), other])
            check_found(self, Unlike, book, poured, [other, book])

    def test_in_a_great_frame(self):
        books = [Book(GREAT, [("ka", "x" + str(at), 0, 400, turn) for turn in range(at, 320, 8)]
                      + [("kb", "y", at * 50, at * 50 + 50, turn) for turn in range(40)]) for at in range(8)]
        told = poured(books)
        self.assertEqual(told.how_many_atoms(), 320 * 400 + 40 * 400)
        self.assertEqual(len(told.parts()), 360)
        self.assertEqual(told.parts_of("kb")[0], ("kb", "y", 0, 400, 0))
        for at in range(8):
            self.assertEqual(lacking(books[at], told), [])
            self.assertEqual(shared(told, books[at]).told(), books[at].told())
        self.assertEqual(poured([told] * 8).told(), told.told())
        check_fields(self, Clash, {"at": 7, "other": 3}, poured, books[:7] + [Book(GREAT, [("ka", "z", 399, 400, 11)])])


class OfTwo(unittest.TestCase):

    def test_atom_by_atom(self):
        chance = random.Random(82)
        for _ in range(200):
            frame = some_frame(chance)
            mine, theirs = atoms_of(some_findings(chance, frame, 6)), atoms_of(some_findings(chance, frame, 6))
            if chance.randrange(2):
                theirs = {**some_atoms(chance, mine), **some_atoms(chance, theirs)}
            one, other = book_of_atoms(frame, mine), book_of_atoms(frame, theirs)
            less = {atom: mine[atom] for atom in mine if theirs.get(atom) != mine[atom]}
            both = {atom: mine[atom] for atom in mine if theirs.get(atom) == mine[atom]}
            self.assertEqual(lacking(one, other), parts_by_hand(frame, less))
            self.assertIs(is_thinner(one, other), not less)
            self.assertEqual(shared(one, other).parts(), parts_by_hand(frame, both))
            self.assertEqual(shared(one, other).told(), shared(other, one).told())
            self.assertEqual((one.parts(), other.parts()), (parts_by_hand(frame, mine), parts_by_hand(frame, theirs)))

    def test_another_value_is_another_atom(self):
        one, other = Book(FRAME, [("a", "x", 0, 3, 1)]), Book(FRAME, [("a", "x", 0, 1, 1), ("a", "y", 1, 2, 1)])
        self.assertEqual(lacking(one=one, other=other), [("a", "x", 1, 3, 1)])
        self.assertEqual(lacking(other, one), [("a", "y", 1, 2, 1)])
        self.assertEqual(shared(one=one, other=other).parts(), [("a", "x", 0, 1, 1)])
        self.assertIs(is_thinner(one=one, other=other), False)

    def test_the_first_has_what_the_second_lacks(self):
        less, more = Book(FRAME, PARTS[:2]), Book(FRAME, PARTS)
        self.assertIs(is_thinner(less, more), True)
        self.assertIs(is_thinner(more, less), False)
        self.assertEqual(lacking(more, less), PARTS[2:])
        self.assertEqual(lacking(less, more), [])
        none = Book(FRAME, [])
        self.assertEqual(lacking(more, none), PARTS)
        self.assertIs(is_thinner(none, none), True)
        self.assertEqual(shared(more, none).parts(), [])
        hole = Book(FRAME, [("b", "x", 1, 2, 1), ("b", "x", 3, 4, 1)])
        self.assertEqual(lacking(more, hole)[:3], [("b", "x", 0, 1, 1), ("b", "x", 2, 3, 1), ("b", "x", 4, 5, 1)])

    def test_refused(self):
        book = Book(FRAME, PARTS)
        for call in (lacking, is_thinner, shared):
            for thing in no_books():
                check_found(self, NoBook, thing, call, thing, book)
                check_found(self, NoBook, thing, call, thing, None)
                check_found(self, NoBook, thing, call, book, thing)
            for frame in OTHERS:
                other = Book(frame, [])
                check_found(self, Unlike, other, call, book, other)
                check_found(self, Unlike, book, call, other, book)

    def test_new_each_time(self):
        less, more = Book(FRAME, PARTS[:2]), Book(FRAME, PARTS)
        check_new_each_time(self, lacking, more, less)
        check_new_each_time(self, lacking, less, more)
        self.assertEqual(more.parts(), PARTS)


class Without(unittest.TestCase):

    def test_atom_by_atom(self):
        chance = random.Random(83)
        for _ in range(120):
            frame = some_frame(chance)
            book = Book(frame, some_findings(chance, frame, 9))
            parts = book.parts()
            gone = [part for part in parts if chance.randrange(2)]
            kept = [part for part in parts if part not in gone]
            chance.shuffle(gone)
            self.assertEqual(without_parts(book, gone + gone[:2]).parts(), kept)
            self.assertEqual(without_parts(book, tuple(gone)).frame.told(), frame.told())
            self.assertEqual(book.parts(), parts)

    def test_none_and_all(self):
        book = Book(FRAME, PARTS)
        self.assertEqual(without_parts(book=book, parts=[]).told(), book.told())
        self.assertEqual(without_parts(book, ()).told(), book.told())
        self.assertEqual(without_parts(book, PARTS * 3).parts(), [])
        self.assertEqual(without_parts(Book(FRAME, []), []).parts(), [])

    def test_refused(self):
        book = Book(FRAME, PARTS)
        for thing in no_books():
            check_found(self, NoBook, thing, without_parts, thing, [])
            check_found(self, NoBook, thing, without_parts, thing, None)
        for thing in strange_things() + ["", {}, {PARTS[0]: 1}, book]:
            if not isinstance(thing, (list, tuple)):
                check_found(self, NoPart, thing, without_parts, book, thing)
        for thing in NO_PARTS + NO_FINDINGS + strange_things():
            check_found(self, NoPart, thing, without_parts, book, [thing])
            check_found(self, NoPart, thing, without_parts, book, (PARTS[0], PARTS[0], thing, None))
        self.assertEqual(refusal(self, NoPart, without_parts, book, PARTS[0]).found, "b")
        self.assertEqual(book.parts(), PARTS)

    def test_what_is_handed_in_stays(self):
        parts = [PARTS[2], PARTS[0]]
        before = copied(parts)
        told = without_parts(Book(FRAME, PARTS), parts)
        self.assertEqual(parts, before)
        parts.clear()
        self.assertEqual(told.parts(), [PARTS[1], *PARTS[3:]])
