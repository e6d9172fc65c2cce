"""What one book lacks of another, sent in rows with checks, and put in there."""

from leastlore.books import Book, check_book, days_said
from leastlore.checks import check_of, is_small
from leastlore.errors import Clash, NoPart, NoRow, NotThinner
from leastlore.findings import is_finding
from leastlore.masks import mask_between
from leastlore.pages import page_of
from leastlore.pouring import do_books_clash, lacking
from leastlore.thinning import thin


def check_for(frame, key, findings):
    """The check of findings of a key, in their order."""
    check = frame.place_of(key)
    for finding in findings:
        check = check_of((check,) + page_of(frame, finding))
    return check


def key_checks(book):
    """For each key that has parts the check of these."""
    check_book(book)
    frame = book.frame
    keys = [key for key in frame.key_names() if book.parts_of(key)]
    return [(key, check_for(frame, key, book.parts_of(key))) for key in keys]


def are_checks(frame, thing):
    """Whether a thing is checks of keys as a book of the frame tells them."""
    if not isinstance(thing, list) or not all(is_key_check(frame, row) for row in thing):
        return False
    places = [frame.place_of(key) for key, check in thing]
    return places == sorted(set(places))


def is_key_check(frame, thing):
    """Whether a thing is a tuple of a key of the frame and of a number that may be a check."""
    return isinstance(thing, tuple) and len(thing) == 2 and frame.has_key(thing[0]) and is_small(thing[1])


def keys_unlike(book, checks):
    """The keys that surely differ in a book and in the one that tells the checks."""
    check_book(book)
    if not are_checks(book.frame, checks):
        raise NoRow(checks)
    mine = dict(key_checks(book))
    theirs = dict(checks)
    return [key for key in book.frame.key_names() if mine.get(key) != theirs.get(key)]


def is_row(frame, thing):
    """Whether a thing is a row of the frame: a key, parts of it, and their check."""
    if not isinstance(thing, tuple) or len(thing) != 3:
        return False
    key, parts, check = thing
    if not frame.has_key(key) or not isinstance(parts, list) or not parts or not is_small(check):
        return False
    if not all(is_finding(frame, part) and part[0] == key for part in parts):
        return False
    return are_parts(frame, parts) and check == check_for(frame, key, parts)


def are_parts(frame, findings):
    """Whether findings are just the parts, in order, of the book of them."""
    try:
        return Book(frame, findings).parts() == findings
    except Clash:
        return False


def check_told(frame, told):
    """Refuses what are no findings of the frame that a book may have."""
    if not isinstance(told, (list, tuple)):
        raise NoPart(told)
    for finding in told:
        if not is_finding(frame, finding):
            raise NoPart(finding)


def check_had(book, told):
    """Refuses the first of the findings not all of whose atoms the book has."""
    said = days_said(book.parts())
    for finding in told:
        key, value, begin, end, known = finding
        if mask_between(begin, end) & ~said.get((key, known, value), 0):
            raise NotThinner(finding)


def rows_for(book, told, boxes=None):
    """The rows that are sent to a book that has the told findings, of the book, or of it made thin by boxes."""
    check_book(book)
    check_told(book.frame, told)
    whole = book if boxes is None else thin(book, boxes)
    check_had(whole, told)
    more = Book(whole.frame, lacking(whole, Book(whole.frame, told)))
    return [(key, more.parts_of(key), check) for key, check in key_checks(more)]


def check_rows(frame, rows):
    """Refuses the first thing that is no row of the frame, or whose key doesn't stand behind that of the row ahead."""
    place = -1
    for row in rows:
        if not is_row(frame, row) or frame.place_of(row[0]) <= place:
            raise NoRow(row)
        place = frame.place_of(row[0])


def put_in(book, rows):
    """The book that has its own atoms and those of the rows."""
    check_book(book)
    if not isinstance(rows, (list, tuple)):
        raise NoRow(rows)
    check_rows(book.frame, rows)
    for row in rows:
        if do_books_clash(book, Book(book.frame, row[1])):
            raise NoRow(row)
    return Book(book.frame, book.parts() + [part for row in rows for part in row[1]])
