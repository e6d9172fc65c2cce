"""Books poured together and made thin, and books lessened as rights get fewer."""

from leastlore.books import check_book
from leastlore.boxsets import joined_boxes
from leastlore.errors import Unlike
from leastlore.pouring import lacking, poured
from leastlore.thinning import thin


def poured_thin(books, boxes):
    """The books poured together, made thin by boxes."""
    return thin(poured(books), boxes)


def check_lesser(book, one, other):
    """Refuses what is no book, or are no boxes of its frame of which the one have all points of the other ones."""
    check_book(book)
    # Joined with boxes that have no further point, the one stay what they are.
    if joined_boxes(book.frame, one, other) != one:
        raise Unlike(other)


def lessened(book, one, other):
    """The book, lessened from boxes to other ones that lie within them."""
    check_lesser(book, one, other)
    return thin(book, other)


def lost_by(book, one, other):
    """The parts that tell what goes when a book is lessened."""
    check_lesser(book, one, other)
    return lacking(thin(book, one), thin(book, other))
