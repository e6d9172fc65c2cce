"""Points 101 to 107: stores."""

import random
import unittest

from leastlore.books import Book
from leastlore.disks import Power
from leastlore.errors import Dark, Full, NoBook, NoDisk, Rotten, Unlike
from leastlore.frames import Frame
from leastlore.stores import Store, store_at
from tests.pagemaking import (
    BLANK, MOST, changed_at, finding_by_hand, no_pages, page_by_hand, root_by_hand, with_check, with_strange,
)
from tests.test_books import some_findings, some_frame
from tests.test_pouring import OTHERS, no_books
from tests.things import GREAT, SIXTY, check_fields, check_found, check_new_each_time, copied, refusal

FRAME = Frame(["b", "a"], 5, 4)
PARTS = [("b", "x", 0, 5, 1), ("a", "x", 1, 4, 0), ("a", "y", 0, 2, 2), ("a", "z", 3, 4, 2), ("a", "x", 3, 5, 3)]
BOOK = Book(FRAME, PARTS)
NONE = Book(FRAME, [])


def root_by_reading(pages):
    """The count and the used pages of the root in force, read place by place."""
    told = (0, [])
    for place in (0, 1):
        page = pages[place]
        used = [32 * at + bit for at in range(16) for bit in range(32) if page[2 + at] // 2 ** bit % 2]
        whole = page == root_by_hand(page[0], used) and page[0] >= 1 and page[0] % 2 == place
        if whole and all(2 <= number < len(pages) for number in used) and page[0] > told[0]:
            told = (page[0], used)
    return told


def parts_by_reading(frame, pages):
    """For each part that the root in force uses its page."""
    return {finding_by_hand(frame, pages[number]): number for number in root_by_reading(pages)[1]}


def blanks_by_hand(pages, used):
    return [(number, BLANK) for number in range(2, len(pages)) if pages[number] != BLANK and number not in used]


def save_by_hand(frame, pages, book):
    """On which page each part would lie, and which pages would be written, by the words of point 103."""
    count, used = root_by_reading(pages)
    lying = parts_by_reading(frame, pages)
    where, new = {}, []
    for part in book.parts():
        if part in lying:
            where[part] = lying[part]
        else:
            where[part] = min(number for number in range(2, 1000)
                              if number not in used and number not in where.values())
            new.append(part)
    rows = [(where[part], page_by_hand(frame, part)) for part in new]
    rows.append(((count + 1) % 2, root_by_hand(count + 1, sorted(where.values()))))
    behind = dict(enumerate(pages))
    behind.update(rows)
    return where, rows + blanks_by_hand(behind, where.values())


def written(pages, rows, many=None):
    """The pages when rows are written on them, at most so many numbers of them."""
    told = list(pages)
    left = 20 * len(rows) if many is None else many
    for number, page in rows:
        fits = min(20, left)
        told[number] = page[:fits] + told[number][fits:]
        left -= fits
    return told


def needed_pages(frame, pages, book):
    count, used = root_by_reading(pages)
    lying = parts_by_reading(frame, pages)
    return 2 + len(used) + len([part for part in book.parts() if part not in lying])


def opened(frame, pages):
    store = store_at(frame, pages)
    store.open_again()
    return store


def saved(frame, many, books):
    store = Store(frame, many)
    for book in books:
        store.save(book)
    return store


class Stores(unittest.TestCase):

    def check_clean(self, store, book):
        """That the store has this book, and that each page from 2 on is blank or bears one part of it."""
        self.assertIs(store.is_dark(), False)
        self.assertEqual(store.book_now().told(), book.told())
        pages = store.pages()
        lying = parts_by_reading(book.frame, pages)
        self.assertEqual(sorted(lying), sorted(book.parts()))
        self.assertEqual((store.count_now(), store.used_pages()), root_by_reading(pages))
        self.assertEqual([number for number in range(2, len(pages)) if pages[number] != BLANK], sorted(lying.values()))

    def check_dark(self, store, many):
        """That all which a dark store doesn't do is refused so, ahead of all else."""
        self.assertIs(store.is_dark(), True)
        before = store.pages()
        for call in (store.book_now, store.count_now, store.used_pages):
            check_fields(self, Dark, {"many": many}, call)
        for book in (BOOK, None, [], Book(OTHERS[0], []), Book(GREAT, [])):
            for call in (store.save, store.cost_of, store.pages_for):
                check_fields(self, Dark, {"many": many}, call, book)
            check_fields(self, Dark, {"many": many}, store.save, book, Power(3))
        self.assertEqual(store.pages(), before)
        self.assertIs(store.is_dark(), True)


class Saving(Stores):

    def test_a_new_store(self):
        for many in (4, 5, 512):
            store = Store(frame=FRAME, many=many)
            self.assertEqual(store.pages(), [BLANK] * many)
            self.assertEqual((store.count_now(), store.used_pages()), (0, []))
            self.assertIs(type(store.book_now()), Book)
            self.check_clean(store, NONE)
            self.assertEqual(store.open_again().told(), NONE.told())
            self.assertEqual(store.pages(), [BLANK] * many)

    def test_made_amiss(self):
        for thing in with_strange([3, 513, 0, -4, True, False, SIXTY, "4", [4], [BLANK] * 4]):
            check_found(self, NoDisk, thing, Store, FRAME, thing)

    def test_one_behind_the_other_number_by_number(self):
        chance = random.Random(103)
        full = 0
        for _ in range(60):
            frame = some_frame(chance)
            store, pages, book = Store(frame, chance.randrange(4, 12)), None, Book(frame, [])
            for _ in range(12):
                pages = store.pages()
                if chance.randrange(4):
                    other = Book(frame, some_findings(chance, frame, 6))
                else:
                    other = Book(frame, [part for part in book.parts() if chance.randrange(3)])
                need = needed_pages(frame, pages, other)
                if need > len(pages):
                    full += 1
                    for call in (store.save, store.cost_of, store.pages_for):
                        check_fields(self, Full, {"many": need}, call, other)
                    self.assertEqual(store.pages(), pages)
                    self.check_clean(store, book)
                    continue
                where, rows = save_by_hand(frame, pages, other)
                self.assertEqual(store.pages_for(other), [(part, where[part]) for part in other.parts()])
                self.assertEqual(store.cost_of(other), 20 * len(rows))
                self.assertEqual(store.pages(), pages)
                power = chance.choice([Power(), Power(20 * len(rows)), Power(20 * len(rows) + 7)])
                left = power.left_over()
                self.assertEqual(store.save(other, power), root_by_reading(pages)[0] + 1)
                self.assertEqual(power.written(), 20 * len(rows))
                self.assertEqual(power.left_over(), None if left is None else left - 20 * len(rows))
                self.assertEqual(store.pages(), written(pages, rows))
                book = other
                self.check_clean(store, book)
                again = opened(frame, store.pages())
                self.assertEqual(again.pages(), store.pages())
                self.check_clean(again, book)
        self.assertGreater(full, 40)

    def test_two_saves_page_by_page(self):
        store = Store(FRAME, 7)
        one = Book(FRAME, PARTS[:3])
        self.assertEqual(store.cost_of(book=one), 80)
        self.assertEqual(store.pages_for(book=one), [(PARTS[0], 2), (PARTS[1], 3), (PARTS[2], 4)])
        self.assertEqual(store.save(book=one), 1)
        self.assertEqual(store.pages(), [BLANK, root_by_hand(1, [2, 3, 4])]
                         + [page_by_hand(FRAME, part) for part in PARTS[:3]] + [BLANK, BLANK])
        # The second stays, two go, two come: on the pages that are free till the new root is written.
        two = Book(FRAME, [PARTS[1], PARTS[3], PARTS[4]])
        self.assertEqual(store.pages_for(two), [(PARTS[1], 3), (PARTS[3], 5), (PARTS[4], 6)])
        self.assertEqual(store.cost_of(two), 20 * (2 + 1 + 2))
        self.assertEqual(store.save(book=two, power=None), 2)
        self.assertEqual(store.pages(), [root_by_hand(2, [3, 5, 6]), root_by_hand(1, [2, 3, 4]), BLANK,
                                         page_by_hand(FRAME, PARTS[1]), BLANK, page_by_hand(FRAME, PARTS[3]),
                                         page_by_hand(FRAME, PARTS[4])])
        self.assertEqual((store.count_now(), store.used_pages()), (2, [3, 5, 6]))
        check_fields(self, Full, {"many": 2 + 3 + 3}, store.save, Book(FRAME, [PARTS[0], PARTS[2],
                                                                               ("b", "w", 0, 1, 0)]))
        self.assertEqual(store.save(NONE), 3)
        self.assertEqual(store.pages(), [root_by_hand(2, [3, 5, 6]), root_by_hand(3, [])] + [BLANK] * 5)

    def test_the_same_book_again(self):
        store = saved(FRAME, 7, [BOOK])
        for count in range(2, 9):
            before = store.pages()
            self.assertEqual(store.cost_of(BOOK), 20)
            self.assertEqual(store.pages_for(BOOK), list(zip(PARTS, range(2, 7))))
            power = Power(20)
            self.assertEqual(store.save(Book(Frame(("b", "a"), 5, 4), PARTS[::-1]), power), count)
            self.assertEqual((power.left_over(), power.written()), (0, 20))
            before[count % 2] = root_by_hand(count, [2, 3, 4, 5, 6])
            self.assertEqual(store.pages(), before)
            self.check_clean(store, BOOK)

    def test_books_without_findings(self):
        store = Store(FRAME, 4)
        for count in range(1, 5):
            self.assertEqual(store.cost_of(NONE), 20)
            self.assertEqual(store.pages_for(NONE), [])
            self.assertEqual(store.save(NONE), count)
            self.check_clean(store, NONE)
        self.assertEqual(store.pages(), [root_by_hand(4, []), root_by_hand(3, []), BLANK, BLANK])

    def test_just_fits_and_one_part_too_many(self):
        findings = [("ka", "x", 0, 400, turn) for turn in range(400)] + [("kb", "x", 0, 1, turn) for turn in range(120)]
        for many in (4, 5, 100, 512):
            store = Store(GREAT, many)
            fits = Book(GREAT, findings[:many - 2])
            check_fields(self, Full, {"many": many + 1}, store.save, Book(GREAT, findings[:many - 1]))
            self.assertEqual(store.pages(), [BLANK] * many)
            self.assertEqual(store.cost_of(fits), 20 * (many - 1))
            self.assertEqual(store.save(fits), 1)
            self.check_clean(store, fits)
            self.assertEqual(store.used_pages(), list(range(2, many)))
            check_fields(self, Full, {"many": many + 1}, store.save, Book(GREAT, findings[1:many - 1]))
            self.assertEqual(store.save(Book(GREAT, findings[1:many - 2])), 2)
            self.assertEqual(store.used_pages(), list(range(3, many)))
            self.assertEqual(store.pages_for(Book(GREAT, findings[1:many - 1]))[-1], (findings[many - 2], 2))

    def test_refused_in_order(self):
        store = saved(FRAME, 5, [Book(FRAME, PARTS[:3])])
        before = store.pages()
        for call in (store.save, store.cost_of, store.pages_for):
            for thing in no_books():
                check_found(self, NoBook, thing, call, thing)
            for frame in OTHERS:
                other = Book(frame, [])
                check_found(self, Unlike, other, call, other)
            crowded = Book(OTHERS[1], [("a", "x", day, day + 1, day % 2) for day in range(6)])
            check_found(self, Unlike, crowded, call, crowded)
            check_fields(self, Full, {"many": 7}, call, BOOK)
        power = Power(0)
        check_fields(self, Full, {"many": 7}, store.save, BOOK, power)
        refusal(self, NoBook, store.save, None, power)
        self.assertEqual(store.pages(), before)
        self.check_clean(store, Book(FRAME, PARTS[:3]))
        check_fields(self, Dark, {"many": 0}, store.save, NONE, power)
        self.check_dark(store, 0)

    def test_what_is_told_is_the_askers_own(self):
        store = saved(FRAME, 7, [BOOK])
        for call in (store.pages, store.used_pages):
            check_new_each_time(self, call)
        check_new_each_time(self, store.pages_for, BOOK)
        self.check_clean(store, BOOK)
        other = Store(FRAME, 7)
        self.assertEqual(other.pages(), [BLANK] * 7)
        other.save(NONE)
        self.check_clean(store, BOOK)

    def test_pages_of_other_values_days_and_turns_are_other_parts(self):
        store = saved(FRAME, 9, [Book(FRAME, [("a", "x", 0, 3, 1)])])
        other = Book(FRAME, [("b", "x", 0, 3, 1), ("a", "x", 0, 2, 1), ("a", "y", 2, 3, 1), ("a", "x", 0, 3, 2)])
        self.assertEqual([page for _, page in store.pages_for(other)], [3, 4, 5, 6])
        # An atom more makes it another part.
        self.assertEqual(store.pages_for(Book(FRAME, [("a", "x", 0, 4, 1)])), [(("a", "x", 0, 4, 1), 3)])


class GoingDark(Stores):

    def check_each_power_of_a_save(self, frame, before, book):
        """A save by each power that doesn't do; told is how often the book of before was found, and the new one."""
        old = opened(frame, before).book_now()
        where, rows = save_by_hand(frame, before, book)
        root_whole = 20 * (1 + [number for number, _ in rows].index((root_by_reading(before)[0] + 1) % 2))
        found = [0, 0]
        for many in range(20 * len(rows)):
            store, power = opened(frame, before), Power(many)
            check_fields(self, Dark, {"many": many}, store.save, book, power)
            pages = written(before, rows, many)
            self.assertEqual(store.pages(), pages)
            self.check_dark(store, many)
            new = many >= root_whole
            expected = book if new else old
            self.check_opening(frame, store, expected, pages)
            found[new] += 1
            self.assertEqual(store.save(book), root_by_reading(before)[0] + 1 + new)
            self.check_clean(store, book)
        return found

    def check_opening(self, frame, store, book, pages):
        """That an opening finds the book, and writes just what has to be made blank."""
        rows = blanks_by_hand(pages, root_by_reading(pages)[1])
        power = Power()
        self.assertEqual(store.open_again(power).told(), book.told())
        self.assertEqual(power.written(), 20 * len(rows))
        self.assertEqual(store.pages(), written(pages, rows))
        self.check_clean(store, book)

    def test_behind_each_number_of_a_save(self):
        one, two = Book(FRAME, PARTS[:3]), Book(FRAME, [PARTS[1], PARTS[3], PARTS[4]])
        found = self.check_each_power_of_a_save(FRAME, [BLANK] * 6, one)
        self.assertEqual(found, [80, 0])
        found = self.check_each_power_of_a_save(FRAME, saved(FRAME, 7, [one]).pages(), two)
        self.assertEqual(found, [60, 40])
        found = self.check_each_power_of_a_save(FRAME, saved(FRAME, 8, [two, one]).pages(), NONE)
        self.assertEqual(found, [20, 60])

    def test_behind_each_number_of_the_same_book_again(self):
        before = saved(FRAME, 7, [BOOK]).pages()
        self.assertEqual(self.check_each_power_of_a_save(FRAME, before, BOOK), [20, 0])

    def test_behind_each_number_by_chance(self):
        chance = random.Random(107)
        for _ in range(6):
            frame = some_frame(chance)
            books = [Book(frame, some_findings(chance, frame, 4)) for _ in range(3)]
            self.check_each_power_of_a_save(frame, saved(frame, 12, books[:2]).pages(), books[2])

    def test_behind_each_number_of_an_opening(self):
        one, two = Book(FRAME, PARTS[:3]), Book(FRAME, PARTS[2:])
        before = saved(FRAME, 8, [one]).pages()
        rows = save_by_hand(FRAME, before, two)[1]
        # Broken off amid the new parts, amid the root, and amid what is made blank.
        for broken, book in ((33, one), (47, one), (59, one), (60, two), (75, two)):
            store = opened(FRAME, before)
            refusal(self, Dark, store.save, two, Power(broken))
            pages = store.pages()
            self.assertEqual(pages, written(before, rows, broken))
            blanks = blanks_by_hand(pages, root_by_reading(pages)[1])
            self.assertTrue(blanks)
            for many in range(20 * len(blanks)):
                power = Power(many)
                store = store_at(FRAME, pages)
                check_fields(self, Dark, {"many": many}, store.open_again, power)
                self.check_dark(store, many)
                self.assertEqual(store.pages(), written(pages, blanks, many))
                self.assertEqual((power.left_over(), power.written()), (0, many))
                # Dark again, with the numbers of another power, and then no more.
                if any(page[0] for page in store.pages()[2:] if page in dict(blanks).values()):
                    check_fields(self, Dark, {"many": 0}, store.open_again, Power(0))
                self.check_opening(FRAME, store, book, store.pages())
                self.assertEqual(store.save(NONE), root_by_reading(pages)[0] + 1)
            store = store_at(FRAME, pages)
            power = Power(20 * len(blanks))
            self.assertEqual(store.open_again(power=power).told(), book.told())
            self.assertEqual(power.left_over(), 0)

    def test_one_power_for_saves_and_openings(self):
        store, power = Store(FRAME, 9), Power(130)
        self.assertEqual(store.save(Book(FRAME, PARTS[:3]), power), 1)
        check_fields(self, Dark, {"many": 130}, store.save, Book(FRAME, PARTS[3:]), power)
        self.check_dark(store, 130)
        check_fields(self, Dark, {"many": 130}, store.open_again, power)
        self.check_dark(store, 130)
        other = Power(1000)
        self.assertEqual(store.open_again(other).parts(), PARTS[:3])
        self.assertEqual(other.written(), 40)
        self.assertEqual(store.save(NONE, other), 2)
        self.assertEqual(other.written(), 40 + 20 + 60)

    def test_no_power_needed_where_nothing_is_to_be_made_blank(self):
        store, power = saved(FRAME, 7, [BOOK]), Power(0)
        self.assertEqual(store.open_again(power).told(), BOOK.told())
        self.assertEqual(power.written(), 0)
        self.check_clean(store, BOOK)
        dark = store_at(FRAME, store.pages())
        self.assertEqual(dark.open_again(power).told(), BOOK.told())
        self.check_clean(dark, BOOK)

    def test_deeds_by_chance(self):
        chance = random.Random(1071)
        found = {True: 0, False: 0}
        for _ in range(40):
            frame = some_frame(chance)
            store, book, count = Store(frame, 12), Book(frame, []), 0
            for _ in range(8):
                other = Book(frame, some_findings(chance, frame, 4))
                try:
                    store.save(other, Power(chance.randrange(store.cost_of(other) + 40)))
                    book, count = other, count + 1
                except Dark:
                    while store.is_dark():
                        try:
                            told = store.open_again(Power(chance.randrange(120)))
                        except Dark:
                            continue
                    new = store.count_now() == count + 1
                    found[new] += 1
                    self.assertEqual(told.told(), (other if new else book).told())
                    book, count = (other, count + 1) if new else (book, count)
                except Full:
                    pass
                self.assertEqual(store.count_now(), count)
                self.check_clean(store, book)
        self.assertGreater(min(found.values()), 10)


class ToldPages(Stores):

    def test_dark_till_it_is_opened(self):
        pages = saved(FRAME, 7, [BOOK]).pages()
        for told in (pages, tuple(pages)):
            store = store_at(frame=FRAME, pages=told)
            self.assertIs(type(store), Store)
            self.assertEqual(store.pages(), pages)
            self.check_dark(store, 0)
            self.assertEqual(store.open_again().told(), BOOK.told())
            self.check_clean(store, BOOK)
            self.assertEqual(store.save(NONE), 2)
        self.assertEqual(pages, saved(FRAME, 7, [BOOK]).pages())

    def test_pages_are_kept_as_a_copy(self):
        pages = saved(FRAME, 7, [BOOK]).pages()
        before = copied(pages)
        store = store_at(FRAME, pages)
        pages.clear()
        self.assertEqual(store.open_again().told(), BOOK.told())
        one, other = store_at(FRAME, before), store_at(FRAME, before)
        one.open_again()
        one.save(NONE)
        self.assertEqual(other.pages(), before)
        self.assertIs(other.is_dark(), True)
        self.assertEqual(before, saved(FRAME, 7, [BOOK]).pages())

    def test_refused_as_a_disk(self):
        for thing in with_strange([[BLANK] * 3, [BLANK] * 513, (BLANK,) * 3, 4, {0: BLANK}]):
            check_found(self, NoDisk, thing, store_at, FRAME, thing)
        for thing in no_pages():
            pages = [BLANK, BLANK, thing, BLANK]
            check_found(self, NoDisk, pages, store_at, FRAME, pages)

    def test_no_root_one_two_and_on_the_wrong_place(self):
        parts = [page_by_hand(FRAME, part) for part in PARTS]
        for zero, first, expected in (
                (BLANK, BLANK, (0, [])), (root_by_hand(2, [2]), BLANK, (2, [2])),
                (BLANK, root_by_hand(1, [2, 3]), (1, [2, 3])), (root_by_hand(1, [2]), BLANK, (0, [])),
                (BLANK, root_by_hand(2, [2]), (0, [])), (root_by_hand(3, [2]), root_by_hand(1, [4]), (1, [4])),
                (root_by_hand(2, [2]), root_by_hand(1, [4]), (2, [2])), (root_by_hand(2, []), root_by_hand(1, [4]), (2, [])),
                (root_by_hand(2, [2]), root_by_hand(3, [4]), (3, [4])), (root_by_hand(5, [2]), root_by_hand(5, [3]), (5, [3])),
                (root_by_hand(6, [2]), root_by_hand(6, [3]), (6, [2])), (root_by_hand(9, [2]), root_by_hand(8, [3]), (0, [])),
                (root_by_hand(MOST - 1, [2]), root_by_hand(MOST, [3]), (MOST, [3])),
                (root_by_hand(MOST - 1, [2]), root_by_hand(1, [3]), (MOST - 1, [2])),
                (root_by_hand(MOST, [2]), root_by_hand(1, [3]), (1, [3])), (parts[0], parts[1], (0, [])),
                (root_by_hand(4, [7]), root_by_hand(3, [5]), (3, [5])), (root_by_hand(4, [0]), BLANK, (0, [])),
                (root_by_hand(4, [1, 2]), root_by_hand(1, []), (1, [])),
                (changed_at(root_by_hand(4, [2]), 18, 7), root_by_hand(3, [6]), (3, [6])),
                (changed_at(root_by_hand(4, [2]), 19, 2), root_by_hand(3, [6]), (3, [6]))):
            pages = [zero, first, *parts]
            self.assertEqual(root_by_reading(pages), expected)
            store = store_at(FRAME, pages)
            book = store.open_again()
            self.assertEqual((store.count_now(), store.used_pages()), expected)
            self.assertEqual(book.parts(), [PARTS[number - 2] for number in expected[1]])
            self.check_clean(store, book)
            self.assertEqual(store.pages()[:2], [zero, first])
            if expected[0] < MOST:
                other = Book(FRAME, PARTS[1:2])
                where, rows = save_by_hand(FRAME, store.pages(), other)
                behind = written(store.pages(), rows)
                self.assertEqual(store.save(other), expected[0] + 1)
                self.assertEqual(store.pages(), behind)
                self.check_clean(store, other)

    def test_pages_that_are_neither_blank_nor_used(self):
        chance = random.Random(106)
        part = page_by_hand(FRAME, PARTS[0])
        junk = [changed_at(BLANK, 19, 1), tuple(chance.randrange(2 ** 32) for _ in range(20)), root_by_hand(9, [3]), part]
        pages = [BLANK, root_by_hand(1, [4]), junk[0], junk[1], part, junk[2], BLANK, junk[3]]
        store, power = store_at(FRAME, pages), Power(80)
        self.assertEqual(store.open_again(power).parts(), [PARTS[0]])
        self.assertEqual(power.written(), 80)
        self.assertEqual(store.pages(), [BLANK, root_by_hand(1, [4]), BLANK, BLANK, part, BLANK, BLANK, BLANK])
        self.check_clean(store, Book(FRAME, PARTS[:1]))
        self.assertEqual(store.pages_for(BOOK), list(zip(PARTS, [4, 2, 3, 5, 6])))

    def check_rotten(self, frame, findings, page, at=None, thing=None):
        pages = [BLANK, BLANK] + [page_by_hand(GREAT if finding[0][0] == "k" else frame, finding)
                                  for finding in findings]
        if at is not None:
            pages[at] = thing
        pages[0] = root_by_hand(6, list(range(2, len(pages))))
        pages += [changed_at(BLANK, 3, 3)] * 2
        store, power = store_at(frame, pages), Power(7)
        for _ in range(2):
            check_fields(self, Rotten, {"page": page}, store.open_again, power)
            self.assertEqual(store.pages(), pages)
            self.check_dark(store, 0)
        self.assertEqual(power.written(), 0)

    def test_rotten_where_a_page_is_none_of_a_finding(self):
        whole = [("b", "x", 0, 1, 0), ("a", "x", 0, 1, 0), ("a", "y", 3, 4, 1)]
        for thing in (BLANK, root_by_hand(1, []), changed_at(page_by_hand(FRAME, whole[1]), 5, 7),
                      with_check((2, 2, 0, 1, 0, 50653) + (0,) * 13), page_by_hand(GREAT, ("kc", "x", 0, 1, 0)),
                      page_by_hand(GREAT, ("kb", "x", 0, 6, 0)), page_by_hand(GREAT, ("kb", "x", 0, 1, 4))):
            self.check_rotten(FRAME, whole, 3, 3, thing)
            self.check_rotten(FRAME, whole, 2, 2, thing)
            self.check_rotten(FRAME, whole, 4, 4, thing)

    def test_rotten_where_findings_are_not_the_parts_of_one_book(self):
        good = [("b", "x", 0, 1, 0), ("a", "x", 1, 3, 1), ("a", "y", 3, 4, 1), ("a", "x", 4, 5, 1), ("a", "x", 0, 1, 2)]
        pages = [root_by_hand(2, [2, 3, 4, 5, 6]), BLANK] + [page_by_hand(FRAME, finding) for finding in good]
        self.assertEqual(opened(FRAME, pages).book_now().parts(), Book(FRAME, good).parts())
        for wrong in (("a", "z", 1, 2, 1), ("a", "x", 1, 3, 1), ("a", "x", 1, 2, 1), ("a", "x", 0, 1, 1),
                      ("a", "x", 0, 2, 1), ("a", "x", 0, 5, 1), ("a", "z", 0, 5, 1), ("a", "y", 4, 5, 1),
                      ("b", "x", 1, 5, 0), ("a", "x", 1, 5, 2), ("a", "x", 2, 4, 1)):
            self.check_rotten(FRAME, [*good, wrong], 7)
            # What is gone through first stands; the other one is rotten.
            self.check_rotten(FRAME, [("b", "q", 0, 1, 3), wrong, *good[:4], good[4]],
                              next(at for at, finding in enumerate(good, start=4)
                                   if not are_parts(FRAME, [finding, wrong])))

    def test_rotten_by_rising_numbers(self):
        pages = [root_by_hand(2, [3, 5, 6]), BLANK, page_by_hand(FRAME, PARTS[0]), page_by_hand(FRAME, PARTS[0]),
                 page_by_hand(FRAME, PARTS[0]), page_by_hand(FRAME, PARTS[1]), page_by_hand(FRAME, PARTS[0]), BLANK]
        check_fields(self, Rotten, {"page": 6}, store_at(FRAME, pages).open_again)
        pages[5] = BLANK
        check_fields(self, Rotten, {"page": 5}, store_at(FRAME, pages).open_again)
        pages[0] = root_by_hand(2, [3])
        self.assertEqual(store_at(FRAME, pages).open_again().parts(), [PARTS[0]])

    def test_by_chance_against_books(self):
        chance = random.Random(1061)
        rotten = 0
        for _ in range(300):
            frame = Frame(["b", "a"], 5, 2)
            findings = []
            for _ in range(chance.randrange(2, 6)):
                begin, end = sorted(chance.sample(range(6), 2))
                findings.append((chance.choice("ab"), chance.choice("xy"), begin, end, chance.randrange(2)))
            pages = [BLANK, root_by_hand(1, list(range(2, len(findings) + 2))),
                     *[page_by_hand(frame, finding) for finding in findings], BLANK]
            expected = next((at + 1 for at in range(1, len(findings) + 1) if not are_parts(frame, findings[:at])), None)
            store = store_at(frame, pages)
            if expected is None:
                self.assertEqual(store.open_again().told(), Book(frame, findings).told())
            else:
                rotten += 1
                check_fields(self, Rotten, {"page": expected}, store.open_again)
        self.assertTrue(60 < rotten < 240)

    def test_a_full_disk_of_512_pages(self):
        book = Book(GREAT, [(key, "v" + str(turn), turn % 7, 400 - turn % 5, turn)
                            for key in ("ka", "kl") for turn in range(145, 400)])
        self.assertEqual(len(book.parts()), 510)
        store = saved(GREAT, 512, [book])
        again = store_at(GREAT, store.pages())
        self.assertEqual(again.open_again().told(), book.told())
        self.check_clean(again, book)


def are_parts(frame, findings):
    """Whether findings are, in some order, just the parts of the book of them."""
    try:
        return sorted(Book(frame, findings).parts()) == sorted(findings)
    except ValueError:
        return False
