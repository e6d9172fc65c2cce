"""Point 84: where all of books poured together is from."""

import random
import unittest

from leastlore.books import Book
from leastlore.errors import Clash, NoBook, Unlike
from leastlore.frames import Frame
from leastlore.pouring import poured
from leastlore.sources import are_sources, sources
from tests.test_books import atoms_of, parts_by_hand, some_findings, some_frame
from tests.test_pouring import OTHERS, book_of_atoms, no_books, some_atoms
from tests.things import GREAT, check_fields, check_found, check_new_each_time, copied, refusal, strange_things

FRAME = Frame(["b", "a"], 5, 4)
PARTS = [("b", "x", 0, 5, 1), ("a", "x", 1, 4, 0), ("a", "y", 0, 2, 2), ("a", "z", 3, 4, 2), ("a", "x", 3, 5, 3)]


def sources_by_hand(frame, books):
    """The list by the words of point 84, day by day."""
    atoms = [atoms_of(book.parts()) for book in books]
    whole = {atom: mine[atom] for mine in atoms for atom in mine}
    told = []
    for key, value, begin, end, known in parts_by_hand(frame, whole):
        places = {day: tuple(at for at, mine in enumerate(atoms) if (key, day, known) in mine)
                  for day in range(begin, end)}
        day = begin
        while day < end:
            first = day
            while day < end and places[day] == places[first]:
                day += 1
            told.append(((key, value, first, day, known), places[first]))
    return told


def some_books(chance, frame, most):
    """One to so many books that can be poured together."""
    atoms = atoms_of(some_findings(chance, frame, 9))
    return [book_of_atoms(frame, some_atoms(chance, atoms)) for _ in range(chance.randrange(1, most + 1))]


class Sources(unittest.TestCase):

    def test_atom_by_atom(self):
        chance = random.Random(84)
        shared = 0
        for _ in range(200):
            frame = some_frame(chance)
            books = some_books(chance, frame, 8)
            before = [book.told() for book in books]
            told = sources(books)
            self.assertEqual(told, sources_by_hand(frame, books))
            self.assertEqual(sources(tuple(books)), told)
            self.assertIs(are_sources(books, told), True)
            self.assertIs(are_sources(tuple(books), copied(told)), True)
            self.assertEqual(Book(frame, [piece for piece, _ in told]).told(), poured(books).told())
            self.assertEqual([book.told() for book in books], before)
            shared += any(len(places) > 1 for _, places in told)
        self.assertGreater(shared, 50)

    def test_kinds(self):
        told = sources(books=[Book(FRAME, PARTS)] * 2)
        self.assertIs(type(told), list)
        for row in told:
            self.assertEqual([type(thing) for thing in row], [tuple, tuple])
            self.assertIs(type(row), tuple)

    def test_one_book_eight_and_books_without_findings(self):
        book, none = Book(FRAME, PARTS), Book(FRAME, [])
        self.assertEqual(sources([book]), [(part, (0,)) for part in PARTS])
        self.assertEqual(sources((book,) * 8), [(part, tuple(range(8))) for part in PARTS])
        self.assertEqual(sources([none, book, none]), [(part, (1,)) for part in PARTS])
        self.assertEqual(sources([none] * 8), [])
        self.assertIs(are_sources([none], []), True)
        self.assertIs(are_sources(books=[none], thing=[((), ())]), False)

    def test_books_that_share_some_days_of_a_part(self):
        one = Book(FRAME, [("a", "x", 0, 3, 1)])
        two = Book(FRAME, [("a", "x", 1, 5, 1), ("b", "x", 0, 1, 0)])
        third = Book(FRAME, [("a", "x", 3, 4, 1)])
        self.assertEqual(sources([one, two, third]), [
            (("b", "x", 0, 1, 0), (1,)), (("a", "x", 0, 1, 1), (0,)), (("a", "x", 1, 3, 1), (0, 1)),
            (("a", "x", 3, 4, 1), (1, 2)), (("a", "x", 4, 5, 1), (1,))])
        # Beside one another, of two books: one part, two pieces.
        self.assertEqual(sources([third, one]), [(("a", "x", 0, 3, 1), (1,)), (("a", "x", 3, 4, 1), (0,))])
        # The same again behind days that a second book has, too.
        middle = Book(FRAME, [("a", "x", 2, 3, 1)])
        whole = Book(FRAME, [("a", "x", 0, 5, 1)])
        self.assertEqual(sources([whole, middle]), [
            (("a", "x", 0, 2, 1), (0,)), (("a", "x", 2, 3, 1), (0, 1)), (("a", "x", 3, 5, 1), (0,))])

    def test_any_thing_as_the_list(self):
        books = [Book(FRAME, [("a", "x", 0, 3, 1)]), Book(FRAME, [("a", "x", 1, 5, 1)])]
        told = [(("a", "x", 0, 1, 1), (0,)), (("a", "x", 1, 3, 1), (0, 1)), (("a", "x", 3, 5, 1), (1,))]
        self.assertIs(are_sources(books, told), True)
        wrong = [
            told[:2], told + told[2:], told[::-1], tuple(told), [list(row) for row in told],
            [(list(piece), places) for piece, places in told], [(piece, list(places)) for piece, places in told],
            [(("a", "x", False, 1, 1), (0,)), *told[1:]], [(("a", "x", 0, True, 1), (0,)), *told[1:]],
            [(("a", "x", 0, 1, 1), (False,)), *told[1:]], [*told[:2], (("a", "x", 3, 5, 1), (True,))],
            [told[0], (told[1][0], (1, 0)), told[2]], [told[0], (told[1][0], (0,)), told[2]],
            [told[0], (told[1][0], (0, 1, 1)), told[2]], [told[0], told[1] + ((),), told[2]],
            [told[0], (("a", "x", 1, 2, 1), (0, 1)), (("a", "x", 2, 3, 1), (0, 1)), told[2]],
            [(("a", "y", 0, 1, 1), (0,)), *told[1:]], [(("b", "x", 0, 1, 1), (0,)), *told[1:]],
            [(("a", "x", 0, 5, 1), (0, 1))], [], books, {0: told}, poured(books),
        ]
        for thing in wrong + strange_things():
            self.assertIs(are_sources(books, thing), False, thing)

    def test_refused_as_poured(self):
        book = Book(FRAME, PARTS)
        clash = [Book(FRAME, []), book, Book(FRAME, [("a", "y", 2, 4, 0)])]
        for call, more in ((sources, ()), (are_sources, (None,)), (are_sources, ([],))):
            for thing in strange_things() + [book, [], (), [book] * 9, (book,) * 9]:
                if not isinstance(thing, (list, tuple)) or not 1 <= len(thing) <= 8:
                    check_found(self, NoBook, thing, call, thing, *more)
            for thing in no_books():
                check_found(self, NoBook, thing, call, [book, thing, None], *more)
            for frame in OTHERS:
                other = Book(frame, [])
                check_found(self, Unlike, other, call, [*clash, other, Book(frame, [])], *more)
            check_fields(self, Clash, {"at": 2, "other": 1}, call, clash, *more)
            refusal(self, NoBook, call, [*clash, Book(OTHERS[0], []), None], *more)

    def test_new_each_time(self):
        books = [Book(FRAME, PARTS), Book(FRAME, PARTS[1:3])]
        kept = check_new_each_time(self, sources, books)
        self.assertEqual(kept, sources_by_hand(FRAME, books))
        self.assertEqual(len(books), 2)

    def test_in_a_great_frame(self):
        books = [Book(GREAT, [("ka", "x", at, 400 - at, turn) for turn in range(40 * at, 320)]) for at in range(8)]
        told = sources(books)
        self.assertEqual(told, sources_by_hand(GREAT, books))
        self.assertEqual(told[-1], (("ka", "x", 399, 400, 319), (0,)))
        comb = [Book(GREAT, [("kl", "y", day, day + 1, 399) for day in range(at, 400, 2)]) for at in (0, 1)]
        self.assertEqual(sources(comb), [(("kl", "y", day, day + 1, 399), (day % 2,)) for day in range(400)])
