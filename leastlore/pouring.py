"""Books poured together, what one lacks of another, and books without some of their parts."""

from leastlore.books import Book, check_book, days_said, parts_in
from leastlore.errors import Clash, NoBook, NoPart, Unlike
from leastlore.frames import same_frame
from leastlore.stairs import check_part

MOST_BOOKS = 8


def check_books(books):
    """Refuses what are no books that could be poured together, but for clashes."""
    if not isinstance(books, (list, tuple)) or not 1 <= len(books) <= MOST_BOOKS:
        raise NoBook(books)
    for book in books:
        check_book(book)
    for book in books:
        check_alike(books[0], book)


def check_alike(one, other):
    """Refuses another book whose frame isn't that of the one."""
    if not same_frame(one.frame, other.frame):
        raise Unlike(other)


def poured(books):
    """The book of all atoms that one of the books has."""
    check_books(books)
    try:
        return Book(books[0].frame, [part for book in books for part in book.parts()])
    except Clash:
        at, other = first_clash(books)
        raise Clash(at, other) from None


def first_clash(books):
    """The numbers of the first book that clashes with one ahead of it, and of the first one with which it does."""
    pairs = [(at, other) for at in range(len(books)) for other in range(at)]
    return [(at, other) for at, other in pairs if do_books_clash(books[other], books[at])][0]


def do_books_clash(one, other):
    """Whether two books say unlike values of one key, day and known turn."""
    try:
        days_said(one.parts() + other.parts())
    except Clash:
        return True
    return False


def check_two(one, other):
    """Refuses what are no two books of one frame."""
    check_book(one)
    check_book(other)
    check_alike(one, other)


def lacking(one, other):
    """The parts that tell the atoms which the first has and the second hasn't."""
    check_two(one, other)
    mine = days_said(one.parts())
    theirs = days_said(other.parts())
    return parts_in(one.frame, {said: mine[said] & ~theirs.get(said, 0) for said in mine})


def is_thinner(one, other):
    """Whether the second book lacks nothing of the first."""
    return lacking(one, other) == []


def shared(one, other):
    """The book of the atoms that both have."""
    check_two(one, other)
    mine = days_said(one.parts())
    theirs = days_said(other.parts())
    return Book(one.frame, parts_in(one.frame, {said: mine[said] & theirs.get(said, 0) for said in mine}))


def without_parts(book, parts):
    """The book without all atoms of some of its parts."""
    check_book(book)
    if not isinstance(parts, (list, tuple)):
        raise NoPart(parts)
    for part in parts:
        check_part(book, part)
    gone = {part: True for part in parts}
    return Book(book.frame, [part for part in book.parts() if part not in gone])
