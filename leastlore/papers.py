"""Papers: they tell of each piece of a book why it was kept, or left out, when the book was made thin."""

from leastlore.books import Book, check_book, place_in_key
from leastlore.boxsets import tidy_table
from leastlore.errors import NoFrame, NoPaper
from leastlore.findings import is_finding, is_some_finding
from leastlore.frames import MOST_TURNS, Frame
from leastlore.masks import first_in
from leastlore.speaking import spoken_turns
from leastlore.thinning import pieces_of, thin_of
from leastlore.words import is_within

KEPT = "kept"
LEFT = "left"


def paper_of(book, boxes):
    """The paper of a book that is made thin by boxes."""
    check_book(book)
    pieces = pieces_of(book, tidy_table(book.frame, boxes))
    thinned = thin_of(book, pieces)
    by_day = {key: parts_by_day(thinned, key) for key in book.frame.key_names()}
    return [row_for(piece, masks, by_day[piece[0]]) for piece, masks in pieces]


def parts_by_day(book, key):
    """For each day the parts of a key that have it, and those that begin on it."""
    having = [[] for _ in range(book.frame.days)]
    beginning = [[] for _ in range(book.frame.days)]
    for part in book.parts_of(key):
        beginning[part[2]].append(part)
        for day in range(part[2], part[3]):
            having[day].append(part)
    return having, beginning


def row_for(piece, masks, by_day):
    """The row of a piece and of the masks of its days, beside the thin book's parts of its key, day by day."""
    if masks[0]:
        return (KEPT, piece, tuple([first_in(mask) for mask in masks]))
    begin, end, known = piece[2:]
    having, beginning = by_day
    # There may be thousands of parts: those that have a day of the piece have its first one, or begin on another.
    found = having[begin] + [part for day in range(begin + 1, end) for part in beginning[day]]
    return (LEFT, piece, tuple(sorted([part for part in found if part[4] > known], key=place_in_key)))


def is_paper(book, boxes, thing):
    """Whether a thing is a right paper."""
    check_book(book)
    table = tidy_table(book.frame, boxes)
    if not isinstance(thing, list) or not all(is_row_in(book.frame, row) for row in thing):
        return False
    if joined_pieces([row[1] for row in thing]) != book.parts():
        return False
    # As the pieces cut the parts in their order, their days follow one another as those of the parts do.
    masks = [mask for part, turns in spoken_turns(book, table) for mask in turns]
    kept = {piece: True for word, piece, _ in thing if word == KEPT}
    at = 0
    for word, piece, reasons in thing:
        days = piece[3] - piece[2]
        if word == KEPT and not are_turns_in(masks[at:at + days], reasons):
            return False
        if word == LEFT and not are_covers(book.frame, piece, reasons, kept, table[piece[0]]):
            return False
        at += days
    return True


def is_row_in(frame, thing):
    """Whether a thing has the outer form of a paper's row, of a piece of the frame."""
    if not isinstance(thing, tuple) or len(thing) != 3 or thing[0] not in (KEPT, LEFT):
        return False
    return is_finding(frame, thing[1]) and isinstance(thing[2], tuple)


def joined_pieces(pieces):
    """The pieces, those that go on side by side made one."""
    told = []
    for key, value, begin, end, known in pieces:
        if told and told[-1][:2] == (key, value) and told[-1][3:] == (begin, known):
            told[-1] = (key, value, told[-1][2], end, known)
        else:
            told.append((key, value, begin, end, known))
    return told


def are_turns_in(masks, turns):
    """Whether things are turns, one for each mask, which has it."""
    if len(turns) != len(masks):
        return False
    return all(is_within(turn, 0, MOST_TURNS - 1) and mask >> turn & 1 for turn, mask in zip(turns, masks))


def are_covers(frame, piece, covers, kept, row):
    """Whether things are kept pieces that speak in a piece's place at all turns of the row."""
    key, _, begin, end, known = piece
    for cover in covers:
        # What is no finding might be equal to a kept piece all the same, or be nothing to look for in a dict.
        if not is_finding(frame, cover) or cover not in kept or cover[0] != key or cover[4] <= known:
            return False
    since = covered_since(covers, frame.days)
    return all(is_covered(row[day] >> known, known, since[day]) for day in range(begin, end))


def covered_since(covers, days):
    """For each day the least known turn of those of the covers that have it, or None."""
    since = [None] * days
    for cover in sorted(covers, key=place_in_key, reverse=True):
        since[cover[2]:cover[3]] = [cover[4]] * (cover[3] - cover[2])
    return since


def is_covered(turns, known, since):
    """Whether all of the turns, counted from a known one, are covered by what is known since another one, or None."""
    return turns == 0 or (since is not None and since <= known + first_in(turns))


def is_paper_row(thing):
    """Whether a thing has the form of a row of a paper, of some frame."""
    if not isinstance(thing, tuple) or len(thing) != 3:
        return False
    word, piece, reasons = thing
    if not is_some_finding(piece) or not isinstance(reasons, tuple):
        return False
    if word == KEPT:
        return len(reasons) == piece[3] - piece[2] and all(is_within(turn, 0, MOST_TURNS - 1) for turn in reasons)
    return word == LEFT and all(is_some_finding(cover) and cover[0] == piece[0] for cover in reasons)


def check_form(paper):
    """Refuses what hasn't the form of a paper."""
    if not isinstance(paper, list) or not all(is_paper_row(row) for row in paper):
        raise NoPaper(paper)


def book_by(frame, paper):
    """The book of the kept pieces of a paper."""
    if not isinstance(frame, Frame):
        raise NoFrame(frame)
    check_form(paper)
    kept = [piece for word, piece, _ in paper if word == KEPT]
    if not all(is_finding(frame, piece) for piece in kept):
        raise NoPaper(paper)
    return Book(frame, kept)
