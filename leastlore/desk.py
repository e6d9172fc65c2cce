"""A desk: it answers lines of text."""

from leastlore.books import Book
from leastlore.booktext import show_book, show_finding
from leastlore.boxtext import show_boxes
from leastlore.desklines import read_line
from leastlore.disks import Power
from leastlore.errors import NoDisk, NoFrame, NoName
from leastlore.forgetting import forget_in, forgotten, pages_with
from leastlore.frames import Frame
from leastlore.papers import paper_of
from leastlore.papertext import show_paper
from leastlore.pouring import lacking, poured
from leastlore.rights import BAR, LET, Rights
from leastlore.rightstext import show_rights
from leastlore.sending import put_in, rows_for
from leastlore.sendtext import show_rows
from leastlore.speaking import ladder
from leastlore.stores import Store
from leastlore.thinning import thin


class Desk:
    """A frame, a book of it, rights, books kept by names, perhaps a store; changed by lines that are said to it."""

    def __init__(self):
        self._frame = None
        self._book = None
        self._rights = None
        self._kept = {}
        self._store = None

    def say(self, line):
        """What is told of a line."""
        word, *things = read_line(line)
        if word == "frame":
            return self.do_frame(*things)
        if self._frame is None:
            raise NoFrame(None)
        deed = self.deeds()[word]
        return deed(*things)

    def deeds(self):
        """For each first word of a line, but `frame`, what is done."""
        return {
            "find": self.do_find, "let": self.do_let, "bar": self.do_bar, "drop": self.do_drop,
            "rights": self.do_rights, "boxes": self.do_boxes, "ask": self.do_ask, "read": self.do_read,
            "why": self.do_why, "ladder": self.do_ladder, "book": self.do_book, "paper": self.do_paper,
            "thin": self.do_thin, "keep": self.do_keep, "fetch": self.do_fetch, "pour": self.do_pour,
            "lack": self.do_lack, "send": self.do_send, "forget": self.do_forget, "store": self.do_store,
            "save": self.do_save, "open": self.do_open, "purge": self.do_purge, "bears": self.do_bears,
        }

    def do_frame(self, keys, days, turns):
        """Begins anew with a frame."""
        frame = Frame(list(keys), days, turns)
        self._frame = frame
        self._book = Book(frame, [])
        self._rights = Rights([])
        self._kept = {}
        self._store = None
        return ["ok"]

    def do_find(self, finding):
        """Pours a finding into the book."""
        return self.turn_to(poured([self._book, Book(self._frame, [finding])]))

    def turn_to(self, book):
        """Makes a book the desk's own, and tells how many parts it has."""
        self._book = book
        return [f"parts {len(book.parts())}"]

    def do_let(self, told):
        """Adds a row that lets a rule."""
        return self.go_by(self._rights.with_row(LET, told))

    def do_bar(self, told):
        """Adds a row that bars a rule."""
        return self.go_by(self._rights.with_row(BAR, told))

    def do_drop(self, number):
        """Lets the row of a number go."""
        return self.go_by(self._rights.without_row(number))

    def go_by(self, rights):
        """Makes rights the desk's own, and tells how many rows they have."""
        self._rights = rights
        return [f"rows {len(rights.rows())}"]

    def do_rights(self):
        """Tells the rights."""
        return lines_in(show_rights(self._rights))

    def allowed(self):
        """The tidy boxes of the points that are allowed."""
        return self._rights.allowed(self._frame)

    def do_boxes(self):
        """Tells the points that are allowed."""
        return lines_in(show_boxes(self.allowed()))

    def do_ask(self, key, day, turn):
        """Asks the book by the rights."""
        return [show_reading(self._rights.ask(self._book, (key, day, turn)))]

    def do_read(self, key, day, turn):
        """Reads the book, whatever the rights are."""
        return [show_reading(self._book.read((key, day, turn)))]

    def do_why(self, key, day, turn):
        """Tells which rows of the rights hold a point."""
        reasons = self._rights.reasons(self._frame, (key, day, turn))
        return [f"{number} {word} {show_truth(held)}" for number, word, held in reasons]

    def do_ladder(self, key, day):
        """Tells what the book reads of a key and a day, turn by turn."""
        rungs = ladder(self._book, key, day)
        return [f"{turn} {end} {show_reading(reading)}" for turn, end, reading in rungs]

    def do_book(self):
        """Tells the book."""
        return lines_in(show_book(self._book))

    def do_paper(self):
        """Tells the paper of the book and of the points that are allowed."""
        return lines_in(show_paper(paper_of(self._book, self.allowed())))

    def do_thin(self):
        """Makes the book thin by the points that are allowed, and tells what was left out."""
        whole = self._book
        self._book = thin(whole, self.allowed())
        return [show_finding(part) for part in lacking(whole, self._book)]

    def do_keep(self, name):
        """Keeps the book by a name."""
        self._kept[name] = self._book
        return ["ok"]

    def kept_by(self, name):
        """The book that is kept by a name."""
        if name not in self._kept:
            raise NoName(name)
        return self._kept[name]

    def do_fetch(self, name):
        """Makes the kept book the desk's own."""
        return self.turn_to(self.kept_by(name))

    def do_pour(self, name):
        """Pours the kept book into the desk's."""
        return self.turn_to(poured([self._book, self.kept_by(name)]))

    def do_lack(self, name):
        """Tells what the kept book lacks of the desk's."""
        kept = self.kept_by(name)
        return [show_finding(part) for part in lacking(self._book, kept)]

    def do_send(self, name):
        """Sends to the kept book what it lacks of the desk's, made thin by the points that are allowed."""
        kept = self.kept_by(name)
        rows = rows_for(self._book, kept.parts(), self.allowed())
        self._kept[name] = put_in(kept, rows)
        return lines_in(show_rows(rows))

    def do_forget(self, key):
        """Forgets a key of the book."""
        return self.turn_to(forgotten(self._book, key))

    def do_store(self, many):
        """Makes a store of so many pages."""
        self._store = Store(self._frame, many)
        return ["ok"]

    def stored(self):
        """The store."""
        if self._store is None:
            raise NoDisk(None)
        return self._store

    def do_save(self, many=None):
        """Saves the book, by power for so many numbers."""
        count = self.stored().save(self._book, Power(many))
        return [f"count {count}"]

    def do_open(self, many=None):
        """Makes the book that is found in the store, opened again, the desk's own."""
        return self.turn_to(self.stored().open_again(Power(many)))

    def do_purge(self, key, many=None):
        """Forgets a key in the store."""
        count = forget_in(self.stored(), key, Power(many))
        return [f"count {count}"]

    def do_bears(self, key):
        """Tells which pages of the store bear a part of a key."""
        numbers = pages_with(self._frame, self.stored().pages(), key)
        return [" ".join([str(number) for number in numbers])] if numbers else []


def lines_in(text):
    """The lines of a text; of the one without signs there are none."""
    return text.split("\n") if text else []


def show_reading(reading):
    """A reading as words."""
    if reading is None:
        return "nothing"
    value, known = reading
    return f"{value} known {known}"


def show_truth(held):
    """Yes or no."""
    return "yes" if held else "no"
