"""Where all of books poured together is from."""

from leastlore.books import days_said
from leastlore.pouring import poured
from leastlore.words import is_same


def sources(books):
    """For each piece of the books poured together the numbers of the books that have it."""
    parts = poured(books).parts()
    said = [days_said(book.parts()) for book in books]
    return [told for part in parts for told in pieces_with(part, masks_of(part, said))]


def masks_of(part, said):
    """For each book, by what it says, the mask of the days of which it says what a part does."""
    what = (part[0], part[4], part[1])
    return [mine.get(what, 0) for mine in said]


def pieces_with(part, masks):
    """The pieces of a part that the same books have, each with their numbers, by the masks of all books."""
    key, value, begin, end, known = part
    edges = 0
    for mask in masks:
        # These are the days from which on a book has what it hadn't a day ahead, or hasn't what it had.
        edges |= mask ^ mask << 1
    begins = [begin] + [day for day in range(begin + 1, end) if edges >> day & 1]
    ends = begins[1:] + [end]
    return [((key, value, day, behind, known), places_at(masks, day)) for day, behind in zip(begins, ends)]


def places_at(masks, day):
    """The numbers, as a tuple, of the masks that have a day."""
    return tuple([place for place, mask in enumerate(masks) if mask >> day & 1])


def are_sources(books, thing):
    """Whether a thing is the list that tells where all of the books is from."""
    return is_same(thing, sources(books))
