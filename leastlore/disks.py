"""Disks of pages, and the power with which they are written."""

from leastlore.errors import Dark, NoDisk, NoNumber, NoPage
from leastlore.pages import MOST_PAGES, PAGE_SIZE, blank_page, is_page
from leastlore.words import is_whole, is_within

LEAST_PAGES = 4


class Power:
    """How many numbers may still be written, None where it never goes, and how many were; writing changes it."""

    def __init__(self, many=None):
        if many is not None and (not is_whole(many) or many < 0):
            raise NoNumber(many)
        self._left = many
        self._spent = 0

    def left_over(self):
        """How many numbers may still be written, or None."""
        return self._left

    def written(self):
        """How many numbers were written in all."""
        return self._spent

    def spend(self, most):
        """Counts as many numbers, at most so many, as may still be written, and tells how many these are."""
        if self._left is None:
            many = most
        else:
            many = min(most, self._left)
            self._left -= many
        self._spent += many
        return many


class Disk:
    """So many pages, blank at first; writing changes it."""

    def __init__(self, many):
        if not is_within(many, LEAST_PAGES, MOST_PAGES):
            raise NoDisk(many)
        self._pages = [blank_page()] * many

    def how_many(self):
        """How many pages the disk has."""
        return len(self._pages)

    def pages(self):
        """All pages, in their order."""
        return list(self._pages)

    def page_at(self, number):
        """The page with a number."""
        if not is_within(number, 0, len(self._pages) - 1):
            raise NoPage(number)
        return self._pages[number]

    def write(self, number, numbers, power=None):
        """Writes the numbers of a page one by one, as far as the power goes; where it goes this is broken off."""
        old = self.page_at(number)
        if not is_page(numbers):
            raise NoPage(numbers)
        mine = Power() if power is None else power
        many = mine.spend(PAGE_SIZE)
        self._pages[number] = numbers[:many] + old[many:]
        if many < PAGE_SIZE:
            raise Dark(mine.written())


def are_pages(thing):
    """Whether a thing is a list or a tuple of as many pages as a disk may have."""
    if not isinstance(thing, (list, tuple)) or not LEAST_PAGES <= len(thing) <= MOST_PAGES:
        return False
    return all(is_page(page) for page in thing)


def disk_of(pages):
    """The disk that has these pages."""
    if not are_pages(pages):
        raise NoDisk(pages)
    disk = Disk(len(pages))
    for number, page in enumerate(pages):
        disk.write(number, page)
    return disk
