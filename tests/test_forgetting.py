"""Points 117 and 118: keys forgotten, in books and in stores."""

import random
import unittest

from leastlore.books import Book
from leastlore.disks import Power
from leastlore.errors import Dark, Full, NoBook, NoKey, NoPage, NoStretch
from leastlore.forgetting import forget_in, forgotten, forgotten_days, pages_with
from leastlore.frames import Frame
from leastlore.stores import Store, store_at
from tests.pagemaking import BLANK, changed_at, no_pages, page_by_hand, root_by_hand, with_strange
from tests.test_books import atoms_of, parts_by_hand, some_findings, some_frame
from tests.test_pouring import no_books
from tests.test_stores import opened, root_by_reading, save_by_hand, saved, written
from tests.things import GREAT, all_points, check_fields, check_found, check_new_each_time, refusal, strange_things

FRAME = Frame(["b", "a", "c"], 5, 4)
PARTS = [("b", "x", 0, 5, 1), ("a", "x", 1, 4, 0), ("a", "y", 0, 2, 2), ("a", "z", 3, 4, 2), ("a", "x", 3, 5, 3)]
BOOK = Book(FRAME, PARTS)
NO_STRETCHES = [(1, 1), (2, 1), (-1, 3), (0, 401), [0, 1], (0,), (0, 1, 2), (True, 2), (0, True), ("0", "1"), None, 3, "",
                (), (None, 1), ((0, 1),), [(0, 1)]]


def no_keys():
    return strange_things() + ["q", "aa", "A", "", 0, ["a"], ("a",), None, "days", FRAME]


class Forgetting(unittest.TestCase):

    def test_atom_by_atom(self):
        chance = random.Random(117)
        for _ in range(120):
            frame = some_frame(chance)
            book = Book(frame, some_findings(chance, frame, 9))
            atoms = atoms_of(book.parts())
            for key in frame.key_names():
                left = {atom: atoms[atom] for atom in atoms if atom[0] != key}
                told = forgotten(book, key)
                self.assertEqual(told.parts(), parts_by_hand(frame, left))
                self.assertEqual(told.frame.told(), frame.told())
                begin, end = sorted(chance.sample(range(frame.days + 3), 2))
                left = {atom: atoms[atom] for atom in atoms if atom[0] != key or not begin <= atom[1] < end}
                self.assertEqual(forgotten_days(book, key, (begin, end)).parts(), parts_by_hand(frame, left))
                self.assertEqual(forgotten_days(book, key, (0, 400)).told(), told.told())
            self.assertEqual(book.parts(), parts_by_hand(frame, atoms))

    def test_the_key_stays_in_the_frame(self):
        told = forgotten(book=BOOK, key="a")
        self.assertEqual(told.parts(), PARTS[:1])
        self.assertEqual(told.frame.key_names(), ["b", "a", "c"])
        self.assertEqual(forgotten(told, "a").told(), told.told())
        self.assertEqual(forgotten(BOOK, "c").told(), BOOK.told())
        self.assertEqual(forgotten(Book(FRAME, []), "b").parts(), [])

    def test_some_days(self):
        self.assertEqual(forgotten_days(book=BOOK, key="a", stretch=(2, 4)).parts(), [
            PARTS[0], ("a", "x", 1, 2, 0), ("a", "y", 0, 2, 2), ("a", "x", 4, 5, 3)])
        self.assertEqual(forgotten_days(BOOK, "b", (1, 2)).parts()[:2], [("b", "x", 0, 1, 1), ("b", "x", 2, 5, 1)])
        self.assertEqual(forgotten_days(BOOK, "a", (4, 400)).parts()[-1], ("a", "x", 3, 4, 3))
        self.assertEqual(forgotten_days(BOOK, "a", (0, 5)).told(), forgotten(BOOK, "a").told())
        for stretch in ((5, 6), (5, 400), (399, 400)):
            self.assertEqual(forgotten_days(BOOK, "a", stretch).told(), BOOK.told())

    def test_refused(self):
        for thing in no_books():
            check_found(self, NoBook, thing, forgotten, thing, None)
            check_found(self, NoBook, thing, forgotten_days, thing, None, None)
        for thing in no_keys():
            check_found(self, NoKey, thing, forgotten, BOOK, thing)
            check_found(self, NoKey, thing, forgotten_days, BOOK, thing, None)
        for thing in NO_STRETCHES + strange_things():
            check_found(self, NoStretch, thing, forgotten_days, BOOK, "a", thing)
            check_found(self, NoStretch, thing, forgotten_days, BOOK, "c", thing)


class InStores(unittest.TestCase):

    def test_no_page_bears_it_and_all_else_reads_as_before(self):
        chance = random.Random(118)
        for _ in range(40):
            frame = some_frame(chance)
            books = [Book(frame, some_findings(chance, frame, 5)) for _ in range(2)]
            for key in frame.key_names():
                store = saved(frame, 14, books)
                before, book = store.pages(), store.book_now()
                expected = Book(frame, [part for part in book.parts() if part[0] != key])
                rows = save_by_hand(frame, before, expected)[1]
                power = Power(20 * len(rows))
                self.assertEqual(forget_in(store, key, power), 3)
                self.assertEqual(power.left_over(), 0)
                self.assertEqual(store.pages(), written(before, rows))
                self.assertEqual(store.book_now().told(), expected.told())
                self.assertEqual(pages_with(frame, store.pages(), key), [])
                for point in all_points(frame):
                    self.assertEqual(store.book_now().read(point), None if point[0] == key else book.read(point))

    def test_broken_off_behind_each_number(self):
        before = saved(FRAME, 9, [BOOK]).pages()
        rows = save_by_hand(FRAME, before, Book(FRAME, PARTS[:1]))[1]
        self.assertEqual(len(rows), 5)
        for many in range(100):
            store = opened(FRAME, before)
            check_fields(self, Dark, {"many": many}, forget_in, store, "a", Power(many))
            self.assertEqual(store.pages(), written(before, rows, many))
            for key in ("a", "q", None):
                check_fields(self, Dark, {"many": many}, forget_in, store, key)
            told = store.open_again()
            if many < 20:
                self.assertEqual((store.count_now(), told.told()), (1, BOOK.told()))
                self.assertEqual(pages_with(FRAME, store.pages(), "a"), [3, 4, 5, 6])
                self.assertEqual(forget_in(store, "a"), 2)
            self.assertEqual((store.count_now(), store.book_now().parts()), (2, PARTS[:1]))
            self.assertEqual(pages_with(FRAME, store.pages(), "a"), [])
            self.assertEqual(pages_with(FRAME, store.pages(), "b"), [2])

    def test_by_names_and_without_power(self):
        store = saved(FRAME, 9, [BOOK])
        self.assertEqual(forget_in(store=store, key="c", power=None), 2)
        self.assertEqual(store.book_now().told(), BOOK.told())
        self.assertEqual(forget_in(store, "b"), 3)
        self.assertEqual(store.book_now().parts(), PARTS[1:])

    def test_refused(self):
        store = saved(FRAME, 9, [BOOK])
        before, power = store.pages(), Power(0)
        for thing in no_keys():
            check_found(self, NoKey, thing, forget_in, store, thing)
            refusal(self, NoKey, forget_in, store, thing, power)
        self.assertEqual(store.pages(), before)
        self.assertIs(store.is_dark(), False)
        check_fields(self, Dark, {"many": 0}, forget_in, store, "a", power)
        dark = store_at(FRAME, before)
        check_fields(self, Dark, {"many": 0}, forget_in, dark, "q", Power(7))
        self.assertEqual(dark.pages(), before)

    def test_a_full_disk_forgets_too(self):
        store = saved(FRAME, 7, [BOOK])
        refusal(self, Full, store.save, Book(FRAME, [*PARTS, ("c", "x", 0, 1, 0)]))
        self.assertEqual(forget_in(store, "a"), 2)
        self.assertEqual(store.used_pages(), [2])

    def test_a_roots_place_that_bore_one_till_it_is_written(self):
        part = page_by_hand(FRAME, PARTS[1])
        pages = [part, root_by_hand(1, [2, 3]), part, page_by_hand(FRAME, PARTS[0]), BLANK]
        self.assertEqual(pages_with(FRAME, pages, "a"), [0, 2])
        store = opened(FRAME, pages)
        self.assertEqual(pages_with(FRAME, store.pages(), "a"), [0, 2])
        self.assertEqual(forget_in(store, "a"), 2)
        self.assertEqual(pages_with(FRAME, store.pages(), "a"), [])
        store = opened(FRAME, [root_by_hand(2, [2, 3]), part, *pages[2:]])
        forget_in(store, "a")
        self.assertEqual(pages_with(FRAME, store.pages(), "a"), [])


class PagesWith(unittest.TestCase):

    def test_told(self):
        pages = [page_by_hand(FRAME, part) for part in PARTS]
        told = [*pages, BLANK, root_by_hand(1, [2]), pages[1], changed_at(pages[1], 4, 1), changed_at(pages[0], 19, 0)]
        self.assertEqual(pages_with(frame=FRAME, pages=told, key="a"), [1, 2, 3, 4, 7])
        self.assertEqual(pages_with(FRAME, tuple(told), "b"), [0])
        self.assertEqual(pages_with(FRAME, told, "c"), [])
        self.assertEqual(pages_with(FRAME, [], "a"), [])
        self.assertEqual(pages_with(FRAME, (), "b"), [])
        check_new_each_time(self, pages_with, FRAME, told, "a")

    def test_pages_of_another_frame(self):
        pages = [page_by_hand(GREAT, finding) for finding in (("ka", "x", 0, 5, 3), ("kb", "x", 0, 6, 0),
                                                              ("kb", "x", 0, 1, 4), ("kd", "x", 0, 1, 0))]
        self.assertEqual([pages_with(FRAME, pages, key) for key in "bac"], [[0], [], []])
        self.assertEqual(pages_with(GREAT, pages, "kb"), [1, 2])

    def test_more_pages_than_a_disk_has_and_of_full_disks(self):
        page = page_by_hand(GREAT, ("kl", "x", 0, 1, 0))
        self.assertEqual(pages_with(GREAT, [page] * 3, "kl"), [0, 1, 2])
        store = Store(GREAT, 512)
        book = Book(GREAT, [(key, "x", 0, 400, turn) for turn in range(255) for key in ("ka", "kl")])
        store.save(book)
        self.assertEqual(pages_with(GREAT, store.pages(), "kl"), list(range(257, 512)))
        self.assertEqual(forget_in(store, "ka"), 2)
        self.assertEqual(pages_with(GREAT, store.pages(), "ka"), [])
        self.assertEqual(root_by_reading(store.pages()), (2, list(range(257, 512))))

    def test_refused(self):
        for thing in with_strange(["", 0, {0: BLANK}, BOOK]):
            if not isinstance(thing, (list, tuple)):
                check_found(self, NoPage, thing, pages_with, FRAME, thing, None)
        for thing in no_pages():
            check_found(self, NoPage, thing, pages_with, FRAME, [thing], "a")
            check_found(self, NoPage, thing, pages_with, FRAME, (BLANK, thing, None), None)
        for thing in no_keys():
            check_found(self, NoKey, thing, pages_with, FRAME, [], thing)
            check_found(self, NoKey, thing, pages_with, FRAME, [BLANK], thing)

    def test_every_dark_store_tells_its_pages(self):
        store = saved(FRAME, 9, [BOOK])
        refusal(self, Dark, store.save, Book(FRAME, []), Power(25))
        self.assertEqual(pages_with(FRAME, store.pages(), "a"), [3, 4, 5, 6])
        self.assertEqual(pages_with(FRAME, store.pages(), "b"), [])
