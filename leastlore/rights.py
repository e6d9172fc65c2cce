"""Rights: rows by which may be asked, or mustn't."""

from leastlore.boxsets import boxes_in
from leastlore.errors import NoNumber, NoRights, NoRule, NotAllowed
from leastlore.frames import checked_point
from leastlore.rules import rule_of
from leastlore.words import is_same, is_within

MOST_ROWS = 16
LET = "let"
BAR = "bar"


class Rights:
    """Rows of a word and of what a rule tells; they never change."""

    def __init__(self, rows):
        if not isinstance(rows, (list, tuple)) or len(rows) > MOST_ROWS:
            raise NoRights(rows)
        self._rows = [checked_row(row) for row in rows]
        self._rules = [(word, rule_of(told)) for word, told in rows]

    def rows(self):
        """The rows, in their order."""
        return list(self._rows)

    def with_row(self, word, told):
        """The rights with a row more, behind all others."""
        return Rights(self._rows + [(word, told)])

    def without_row(self, number):
        """The rights without the row of a number."""
        check_row_number(self, number)
        return Rights(self._rows[:number] + self._rows[number + 1:])

    def masks(self, frame):
        """For each row its word, and the mask of the points that its rule holds."""
        return [(word, rule.mask(frame)) for word, rule in self._rules]

    def mask(self, frame):
        """The mask of the points that are allowed."""
        return allowed_by(self.masks(frame))

    def allowed(self, frame):
        """The tidy boxes of the points that are allowed."""
        return boxes_in(frame, self.mask(frame))

    def is_allowed(self, frame, point):
        """Whether a point is allowed."""
        return self.place_of_no(frame, point) is None

    def place_of_no(self, frame, point):
        """The number of the row by which a point isn't allowed, or of the lacking one; None, where it is allowed."""
        reasons = self.reasons(frame, point)
        bars = [number for number, word, held in reasons if held and word == BAR]
        if bars:
            return bars[0]
        lets = [number for number, word, held in reasons if held]
        return None if lets else len(self._rows)

    def ask(self, book, point):
        """What a book reads at a point, where it is allowed."""
        place = self.place_of_no(book.frame, point)
        if place is not None:
            raise NotAllowed(point, place)
        return book.read(point)

    def reader(self, book):
        """A function of a point, which asks the book."""
        def read_at(point):
            """What the book, asked by these rights, reads at a point."""
            return self.ask(book, point)
        return read_at

    def reasons(self, frame, point):
        """For each row its number, its word, and whether its rule holds a point."""
        checked_point(frame, point)
        return [(number, word, rule.holds(frame, point)) for number, (word, rule) in enumerate(self._rules)]

    def are_reasons(self, frame, point, thing):
        """Whether a thing is the list of reasons of a point."""
        return is_same(thing, self.reasons(frame, point))


def checked_row(thing):
    """The thing, a row of rights; what is none is refused."""
    if not isinstance(thing, tuple) or len(thing) != 2 or thing[0] not in (LET, BAR):
        raise NoRights(thing)
    try:
        rule_of(thing[1])
    except NoRule:
        raise NoRights(thing) from None
    return thing


def check_row_number(rights, number):
    """Refuses what is no number of a row of some rights."""
    if not is_within(number, 0, len(rights.rows()) - 1):
        raise NoNumber(number)


def allowed_by(rows):
    """The mask of the points that rows allow, each of them a word and the mask of its rule."""
    lets = 0
    bars = 0
    for word, mask in rows:
        if word == LET:
            lets |= mask
        else:
            bars |= mask
    return lets & ~bars
