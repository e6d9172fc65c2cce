"""Books of findings."""

from leastlore.errors import Clash, NoBook, NoFinding, NoFrame
from leastlore.findings import is_finding
from leastlore.frames import checked_point, frame_of
from leastlore.masks import mask_between, runs_in


class Book:
    """A frame, and what findings say in it; it never changes."""

    def __init__(self, frame, findings):
        if not isinstance(findings, (list, tuple)):
            raise NoFinding(findings)
        for finding in findings:
            if not is_finding(frame, finding):
                raise NoFinding(finding)
        self.frame = frame
        self._by_key = parts_by_key(frame, days_said(findings))
        self._is_part = {part: True for part in self.parts()}

    def parts(self):
        """The findings that tell the book tidily, in order."""
        return [part for key in self._by_key for part in self._by_key[key]]

    def parts_of(self, key):
        """The parts of a key, in order."""
        # Of no key of the frame this refuses to tell the place.
        self.frame.place_of(key)
        return list(self._by_key[key])

    def has_part(self, thing):
        """Whether a thing is one of the parts."""
        # What is no finding might be equal to a part all the same, or be nothing to look for in a dict.
        return is_finding(self.frame, thing) and thing in self._is_part

    def how_many_atoms(self):
        """How many atoms the book has."""
        return sum(part[3] - part[2] for part in self.parts())

    def has_all(self, finding):
        """Whether the book has all atoms of a finding."""
        if not is_finding(self.frame, finding):
            raise NoFinding(finding)
        return any(lies_in(finding, part) for part in self._by_key[finding[0]])

    def read(self, point):
        """The reading at a point: a value and its known turn, or None."""
        part = self.speaker(point)
        return None if part is None else (part[1], part[4])

    def speaker(self, point):
        """The part that speaks at a point, or None."""
        key, day, turn = checked_point(self.frame, point)
        # The parts of a key rise by known turns, and those of one turn have no common day.
        for part in reversed(self._by_key[key]):
            if part[4] <= turn and part[2] <= day < part[3]:
                return part
        return None

    def told(self):
        """The book as a tuple."""
        return (self.frame.told(), tuple(self.parts()))


def days_said(findings):
    """For each key, known turn and value the mask of the days of which it is said; refused where findings clash."""
    said = {}
    taken = {}
    for at, (key, value, begin, end, known) in enumerate(findings):
        days = mask_between(begin, end)
        here = (key, known)
        mine = said.get((key, known, value), 0)
        if days & taken.get(here, 0) & ~mine:
            raise Clash(at, first_against(findings, at))
        said[(key, known, value)] = mine | days
        taken[here] = taken.get(here, 0) | days
    return said


def first_against(findings, at):
    """The number of the first finding with which the one of the number at clashes."""
    return [other for other in range(at) if do_clash(findings[other], findings[at])][0]


def do_clash(one, other):
    """Whether two findings say unlike values of one key, day and known turn."""
    if one[0] != other[0] or one[4] != other[4] or one[1] == other[1]:
        return False
    return one[2] < other[3] and other[2] < one[3]


def parts_by_key(frame, said):
    """For each key, in the frame's order, its parts, in order."""
    by_key = {key: [] for key in frame.key_names()}
    for (key, known, value), days in said.items():
        by_key[key].extend([(key, value, begin, end, known) for begin, end in runs_in(days)])
    return {name: sorted(by_key[name], key=place_in_key) for name in by_key}


def parts_in(frame, said):
    """The parts that tell what is so said, in order."""
    by_key = parts_by_key(frame, said)
    return [part for key in by_key for part in by_key[key]]


def place_in_key(part):
    """What the parts of one key stand in the order of."""
    return (part[4], part[2])


def lies_in(finding, part):
    """Whether a part of the finding's key has all atoms of it."""
    return finding[1] == part[1] and finding[4] == part[4] and part[2] <= finding[2] and finding[3] <= part[3]


def check_book(thing):
    """Refuses what is no book."""
    if not isinstance(thing, Book):
        raise NoBook(thing)


def book_of(told):
    """The book that tells just this."""
    if not isinstance(told, tuple) or len(told) != 2 or not isinstance(told[1], tuple):
        raise NoBook(told)
    frame, parts = told
    try:
        book = Book(frame_of(frame), parts)
    except (NoFrame, NoFinding, Clash):
        raise NoBook(told) from None
    if book.parts() != list(parts):
        raise NoBook(told)
    return book


def same_book(one, other):
    """Whether two books tell the same."""
    return one.told() == other.told()
