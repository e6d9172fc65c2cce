"""Point 7: what is promised over whole rows of deeds, in all stages together."""

import random
import unittest

from leastlore.books import Book, book_of
from leastlore.booktext import read_book, show_book
from leastlore.disks import Power
from leastlore.errors import Dark, NotAllowed
from leastlore.forgetting import forget_in, forgotten, pages_with
from leastlore.frames import Frame
from leastlore.lessening import lessened, lost_by, poured_thin
from leastlore.lesser import is_lesser, without_idle
from leastlore.papers import book_by, is_paper, paper_of
from leastlore.papertext import read_paper, show_paper
from leastlore.pouring import is_thinner, lacking, poured
from leastlore.rights import Rights
from leastlore.rightstext import read_rights, show_rights
from leastlore.rules import rule_of
from leastlore.ruletext import read_rule
from leastlore.sending import key_checks, keys_unlike, put_in, rows_for
from leastlore.sendtext import read_rows, show_rows
from leastlore.sources import sources
from leastlore.stores import Store, store_at
from leastlore.thinning import is_thin, thin
from tests.pagemaking import BLANK, finding_by_hand
from tests.rulemaking import allowed_points, place_by_hand, some_rows
from tests.test_books import atoms_of, parts_by_hand, reading_by_hand, some_findings, some_frame
from tests.test_pouring import book_of_atoms, some_atoms
from tests.test_sending import rows_by_hand
from tests.test_stores import parts_by_reading
from tests.test_thinning import needed_by_hand
from tests.things import all_points, refusal, tidy_of


def by_text(book):
    return read_book(show_book(book))


def by_telling(book):
    return book_of(book.told())


def by_a_store(book):
    store = Store(book.frame, max(4, 2 + len(book.parts())))
    store.save(book)
    return store_at(book.frame, store.pages()).open_again()


def by_rows(book):
    rows = read_rows(book.frame, show_rows(rows_for(book, [])))
    return put_in(Book(book.frame, []), rows)


def by_pieces(book):
    return Book(book.frame, [piece for piece, _ in sources([book, Book(book.frame, book.parts()[::2])])])


WAYS = [by_text, by_telling, by_a_store, by_rows, by_pieces]


class Whole(unittest.TestCase):

    def test_allowed_points_and_what_stands_against_the_others(self):
        chance = random.Random(7)
        for _ in range(60):
            frame = some_frame(chance)
            rows = some_rows(chance, frame, 5)
            rights, book = Rights(rows), Book(frame, some_findings(chance, frame, 6))
            self.assertEqual(rights.allowed(frame), tidy_of(frame, allowed_points(frame, rows)))
            reader = rights.reader(book)
            for point in all_points(frame):
                place = place_by_hand(frame, rows, point)
                if place is None:
                    self.assertEqual(reader(point), reading_by_hand(atoms_of(book.parts()), point))
                else:
                    error = refusal(self, NotAllowed, reader, point)
                    self.assertEqual((error.point, error.place), (point, place))

    def test_the_least_book_whatever_way_leads_to_it(self):
        chance = random.Random(71)
        for _ in range(120):
            frame = some_frame(chance)
            atoms = atoms_of(some_findings(chance, frame, 9))
            rights = Rights(some_rows(chance, frame, 4))
            boxes = rights.allowed(frame)
            greater = tidy_of(frame, allowed_points(frame, rights.rows())
                              | {point for point in all_points(frame) if chance.randrange(3) == 0})
            books = [book_of_atoms(frame, some_atoms(chance, atoms)) for _ in range(4)] + [book_of_atoms(frame, atoms)]
            least = needed_by_hand(atoms, allowed_points(frame, rights.rows()))
            for _ in range(8):
                at, deed = chance.randrange(len(books)), chance.randrange(5)
                if deed == 0:
                    books[at] = thin(books[at], greater)
                elif deed == 1:
                    books[at] = thin(books[at], boxes)
                elif deed == 2:
                    books[at] = lessened(books[at], greater, boxes)
                elif deed == 3 and len(books) > 2:
                    other = books.pop()
                    at = chance.randrange(len(books))
                    books[at] = poured_thin([books[at], other], greater)
                else:
                    books[at] = chance.choice(WAYS)(books[at])
            told = poured_thin(books, boxes)
            self.assertEqual(told.parts(), parts_by_hand(frame, least))
            self.assertIs(is_thin(poured(books), boxes, told), True)
            whole = book_of_atoms(frame, atoms)
            for point in all_points(frame):
                if rights.is_allowed(frame, point):
                    self.assertEqual(rights.ask(told, point), reading_by_hand(atoms, point))
                    self.assertEqual(rights.ask(told, point), rights.ask(whole, point))

    def test_each_piece_kept_or_left_out_for_a_reason(self):
        chance = random.Random(72)
        for _ in range(60):
            frame = some_frame(chance)
            book, rights = Book(frame, some_findings(chance, frame, 9)), Rights(some_rows(chance, frame, 4))
            boxes, allowed = rights.allowed(frame), allowed_points(frame, rights.rows())
            paper = read_paper(show_paper(paper_of(book, boxes)))
            self.assertIs(is_paper(book, boxes, paper), True)
            self.assertEqual(book_by(frame, paper).told(), thin(book, boxes).told())
            for word, (key, value, begin, end, known), reasons in paper:
                for day in range(begin, end):
                    points = [(key, day, turn) for turn in range(known, frame.turns) if (key, day, turn) in allowed]
                    if word == "kept":
                        point = (key, day, reasons[day - begin])
                        self.assertIn(point, points)
                        self.assertEqual(book.read(point), (value, known))
                    else:
                        for point in points:
                            self.assertTrue(any(cover[2] <= day < cover[3] and known < cover[4] <= point[2]
                                                for cover in reasons))

    def test_lesser_rights_step_by_step(self):
        chance = random.Random(73)
        for _ in range(60):
            frame = some_frame(chance)
            book = whole = Book(frame, some_findings(chance, frame, 9))
            rights = Rights([("let", ("all",)), *some_rows(chance, frame, 2)])
            boxes = rights.allowed(frame)
            book = thin(book, boxes)
            gone = lacking(whole, book)
            for told in [row[1] for row in some_rows(chance, frame, 4)]:
                fewer = without_idle(frame, read_rights(show_rights(rights.with_row("bar", told))))
                self.assertIs(is_lesser(frame, fewer, rights), True)
                left = fewer.allowed(frame)
                gone += lost_by(book, boxes, left)
                book = lessened(book, boxes, left)
                self.assertEqual(book.told(), thin(whole, left).told())
                rights, boxes = fewer, left
            self.assertEqual(atoms_of(gone + book.parts()), atoms_of(whole.parts()))
            self.assertEqual(sum(part[3] - part[2] for part in gone) + book.how_many_atoms(), whole.how_many_atoms())

    def test_what_is_sent_makes_the_other_book_the_same(self):
        chance = random.Random(115)
        for _ in range(120):
            frame = some_frame(chance)
            book, rights = Book(frame, some_findings(chance, frame, 9)), Rights(some_rows(chance, frame, 4))
            boxes = chance.choice([None, rights.allowed(frame)])
            whole = atoms_of((book if boxes is None else thin(book, boxes)).parts())
            other = book_of_atoms(frame, some_atoms(chance, whole))
            rows = read_rows(frame, show_rows(rows_for(book, other.parts(), boxes)))
            had = atoms_of(other.parts())
            self.assertEqual(rows, rows_by_hand(frame, {atom: whole[atom] for atom in whole if atom not in had}))
            told = chance.choice(WAYS)(put_in(other, rows))
            self.assertEqual(told.parts(), parts_by_hand(frame, whole))
            self.assertEqual(keys_unlike(told, key_checks(book_of_atoms(frame, whole))), [])
            self.assertEqual(rows_for(book, told.parts(), boxes), [])
            self.assertIs(is_thinner(other, told), True)

    def test_the_book_of_before_or_the_one_behind_wherever_the_power_goes(self):
        chance = random.Random(107)
        for _ in range(40):
            frame = some_frame(chance)
            store, book, power = Store(frame, 16), Book(frame, []), Power(chance.randrange(3000))
            for _ in range(12):
                key = chance.choice(frame.key_names())
                forgets = chance.randrange(3) == 0
                other = forgotten(book, key) if forgets else Book(frame, some_findings(chance, frame, 5))
                if len(set(book.parts()) | set(other.parts())) > 14:
                    continue
                count = store.count_now()
                if chance.randrange(2):
                    power = Power(chance.randrange(store.cost_of(other) + 10))
                try:
                    told = forget_in(store, key, power) if forgets else store.save(other, power)
                    self.assertEqual(told, count + 1)
                except Dark as error:
                    self.assertEqual(error.many, power.written())
                    self.assertEqual(power.left_over(), 0)
                    store = chance.choice([store, store_at(frame, store.pages())])
                    power = Power()
                    told = store.open_again(power)
                    self.assertIn((store.count_now(), told.told()), [(count, book.told()), (count + 1, other.told())])
                book = other if store.count_now() == count + 1 else book
                self.assertEqual(store.book_now().told(), book.told())
                self.assertEqual(sorted(parts_by_reading(frame, store.pages())), sorted(book.parts()))
                for page in store.pages()[2:]:
                    self.assertTrue(page == BLANK or finding_by_hand(frame, page) in book.parts())
                if forgets and store.count_now() == count + 1:
                    self.assertEqual(pages_with(frame, store.pages(), key), [])

    def test_texts_written_and_read(self):
        chance = random.Random(74)
        for _ in range(60):
            frame = some_frame(chance)
            rights, book = Rights(some_rows(chance, frame, 6)), Book(frame, some_findings(chance, frame, 9))
            for _, told in rights.rows():
                rule = rule_of(told)
                self.assertEqual(read_rule(rule.words()).told(), told)
                self.assertEqual(read_rule(rule.words()).words(), rule.words())
            self.assertEqual(read_rights(show_rights(rights)).rows(), rights.rows())
            self.assertEqual(by_text(book).told(), book.told())
            for way in WAYS:
                self.assertEqual(way(book).told(), book.told())
            paper = paper_of(book, rights.allowed(frame))
            self.assertEqual(read_paper(show_paper(paper)), paper)

    def test_a_whole_story_by_hand(self):
        frame = Frame(["b", "a"], 4, 4)
        book = Book(frame, [("a", "x", 0, 4, 0), ("a", "y", 1, 3, 2), ("b", "z", 0, 4, 1)])
        rights = read_rights("let last 1\nbar both ( key b ) ( days 2 4 )")
        boxes = rights.allowed(frame)
        least = thin(book, boxes)
        self.assertEqual(least.parts(), [("b", "z", 0, 2, 1), ("a", "x", 0, 1, 0), ("a", "x", 3, 4, 0), ("a", "y", 1, 3, 2)])
        store = Store(frame, 8)
        self.assertEqual(store.save(least), 1)
        rows = rows_for(book, [("a", "y", 1, 3, 2)], boxes)
        self.assertEqual([key for key, _, _ in rows], ["b", "a"])
        self.assertEqual(put_in(Book(frame, [("a", "y", 1, 3, 2)]), rows).told(), store.book_now().told())
        self.assertEqual(forget_in(store, "a", Power(100)), 2)
        self.assertEqual(store.book_now().parts(), [("b", "z", 0, 2, 1)])
        self.assertEqual(pages_with(frame, store.pages(), "a"), [])
