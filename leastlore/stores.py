"""Stores: each keeps one book on a disk, so that it stays whole wherever the power goes."""

from leastlore.books import Book, check_book
from leastlore.disks import Disk, disk_of
from leastlore.errors import Dark, Full, Rotten, Unlike
from leastlore.frames import same_frame
from leastlore.masks import mask_between
from leastlore.pages import FIRST_USED, PAGE_SIZE, blank_page, page_of, part_on, root_on, root_page


class Store:
    """A book of a frame on a disk of its own; dark from when the power went till it is opened again."""

    def __init__(self, frame, many):
        self._disk = Disk(many)
        self._frame = frame
        self._dark = None
        # While the store isn't dark the disk tells nothing else, and needn't be read again: the count, the book, and
        # the page of each of its parts.
        self._count = 0
        self._book = Book(frame, [])
        self._lies = {}

    def is_dark(self):
        """Whether the store is dark."""
        return self._dark is not None

    def pages(self):
        """All pages of the disk."""
        return self._disk.pages()

    def open_again(self, power=None):
        """The book that is found on the disk; pages that it doesn't need are made blank."""
        count, used = root_in_force(self._disk)
        lies = parts_lying(self._frame, self._disk, used)
        self.write_all(to_be_blank(self._disk, used), power)
        self.hold(count, Book(self._frame, list(lies)), lies)
        self._dark = None
        return self._book

    def book_now(self):
        """The book of the store."""
        self.check_lit()
        return self._book

    def count_now(self):
        """The count of the root in force."""
        self.check_lit()
        return self._count

    def used_pages(self):
        """The numbers of the pages that the root in force uses, rising."""
        self.check_lit()
        return sorted(self._lies.values())

    def save(self, book, power=None):
        """The new count, when the book is saved."""
        lies, rows = self.planned(book)
        self.write_all(rows, power)
        self.hold(self._count + 1, book, lies)
        return self._count

    def cost_of(self, book):
        """How many numbers a save of the book would write."""
        return len(self.planned(book)[1]) * PAGE_SIZE

    def pages_for(self, book):
        """On which page each part of the book would lie when it is saved."""
        lies = self.planned(book)[0]
        return [(part, lies[part]) for part in book.parts()]

    def planned(self, book):
        """On which page each part of a book would lie, and which pages a save would write, by number, in order."""
        self.check_lit()
        check_book(book)
        if not same_frame(book.frame, self._frame):
            raise Unlike(book)
        lies = places_for(book.parts(), self._lies, self._disk.how_many())
        used = sorted(lies.values())
        count = self._count + 1
        taken = [(lies[part], page_of(self._frame, part)) for part in book.parts() if part not in self._lies]
        root = (place_of_root(count), root_page(count, used))
        return lies, taken + [root] + to_be_blank(self._disk, used)

    def check_lit(self):
        """Refuses what a dark store doesn't do."""
        if self._dark is not None:
            raise Dark(self._dark)

    def write_all(self, rows, power):
        """Writes pages on the disk; where the power goes the store is dark."""
        try:
            for number, page in rows:
                self._disk.write(number, page, power)
        except Dark as error:
            self._dark = error.many
            raise

    def hold(self, count, book, lies):
        """Keeps what the root in force tells now."""
        self._count = count
        self._book = book
        self._lies = lies

    def lie_on(self, disk):
        """Puts another disk in the place of the store's own; the store is dark then."""
        self._disk = disk
        self._dark = 0


def store_at(frame, pages):
    """The store of a frame on a disk that has these pages, dark till it is opened."""
    disk = disk_of(pages)
    store = Store(frame, disk.how_many())
    store.lie_on(disk)
    return store


def place_of_root(count):
    """The number of the page on which a root of a count stands."""
    return count % 2


def root_in_force(disk):
    """The count and the used pages of the root in force; where there is none, of no pages."""
    told = (0, [])
    for number in range(FIRST_USED):
        root = root_on(disk.page_at(number), disk.how_many())
        if root is not None and place_of_root(root[0]) == number and root[0] > told[0]:
            told = root
    return told


def parts_lying(frame, disk, used):
    """For each part on used pages its page; refused is the first page that has none, or none of the same book."""
    lies = {}
    said = {}
    taken = {}
    for number in used:
        part = part_on(frame, disk.page_at(number))
        if part is None:
            raise Rotten(number)
        key, value, begin, end, known = part
        days = mask_between(begin, end)
        mine = said.get((key, known, value), 0)
        theirs = taken.get((key, known), 0)
        # A part has no day of another one, and none beside one of its own value.
        if days & theirs or (days << 1 | days >> 1) & mine:
            raise Rotten(number)
        said[(key, known, value)] = mine | days
        taken[(key, known)] = theirs | days
        lies[part] = number
    return lies


def places_for(parts, lies, many):
    """For each part its page on a disk of so many, where some parts lie on pages already."""
    more = [part for part in parts if part not in lies]
    need = FIRST_USED + len(lies) + len(more)
    if need > many:
        raise Full(need)
    used = {number: True for number in lies.values()}
    free = [number for number in range(FIRST_USED, many) if number not in used]
    taken = dict(zip(more, free))
    return {part: lies[part] if part in lies else taken[part] for part in parts}


def to_be_blank(disk, used):
    """The blank page for each number, rising, of a page that isn't blank, isn't used and is no root's place."""
    kept = {number: True for number in used}
    blank = blank_page()
    pages = list(enumerate(disk.pages()))[FIRST_USED:]
    return [(number, blank) for number, page in pages if page != blank and number not in kept]
