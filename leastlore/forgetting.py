"""Keys forgotten, in books and in stores."""

from leastlore.books import Book, check_book, days_said, parts_in
from leastlore.errors import NoPage, NoStretch
from leastlore.masks import mask_between
from leastlore.pages import is_page, part_on
from leastlore.runs import is_stretch


def forgotten(book, key):
    """The book without all atoms of a key."""
    check_book(book)
    # Of no key of the frame this refuses to tell the place.
    book.frame.place_of(key)
    return Book(book.frame, [part for part in book.parts() if part[0] != key])


def forgotten_days(book, key, stretch):
    """The book without the atoms of a key on the days of a stretch."""
    check_book(book)
    book.frame.place_of(key)
    if not is_stretch(stretch):
        raise NoStretch(stretch)
    begin, end = stretch
    gone = mask_between(begin, end)
    said = days_said(book.parts())
    left = {what: said[what] & ~gone if what[0] == key else said[what] for what in said}
    return Book(book.frame, parts_in(book.frame, left))


def forget_in(store, key, power=None):
    """The new count, when the store's book is saved without a key."""
    return store.save(forgotten(store.book_now(), key), power)


def pages_with(frame, pages, key):
    """The numbers of those pages which are that of a finding of a key."""
    if not isinstance(pages, (list, tuple)):
        raise NoPage(pages)
    for page in pages:
        if not is_page(page):
            raise NoPage(page)
    frame.place_of(key)
    parts = [part_on(frame, page) for page in pages]
    return [number for number, part in enumerate(parts) if part is not None and part[0] == key]
