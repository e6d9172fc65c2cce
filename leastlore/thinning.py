"""Books made thin: only what speaks at points of boxes is kept."""

from leastlore.books import Book, check_book, same_book
from leastlore.boxsets import tidy_table
from leastlore.speaking import pieces_by, spoken_turns


def pieces_of(book, table):
    """The pieces of all parts, in order, each with the masks, day by day, of the table's turns at which it speaks."""
    return [told for part, masks in spoken_turns(book, table) for told in pieces_by(part, masks)]


def thin_of(book, pieces):
    """The book of those of its pieces that are needed."""
    return Book(book.frame, [piece for piece, masks in pieces if masks[0]])


def thin(book, boxes):
    """The book of the atoms that speak at points of the boxes."""
    check_book(book)
    return thin_of(book, pieces_of(book, tidy_table(book.frame, boxes)))


def is_thin(book, boxes, thing):
    """Whether a thing is the same book as the thin one."""
    told = thin(book, boxes)
    return isinstance(thing, Book) and same_book(thing, told)
