"""What the tests of the desk need: a desk by hand, which goes through atoms, points and pages one by one."""

from leastlore.books import Book
from leastlore.errors import (
    Clash, Dark, Full, NoDisk, NoFinding, NoFrame, NoKey, NoName, NoNumber, NoPoint, NoRights, NotAllowed, NotThinner,
)
from leastlore.frames import Frame
from tests.pagemaking import BLANK, finding_by_hand
from tests.rulemaking import allowed_points, holds_by_hand, place_by_hand
from tests.test_books import atoms_of, parts_by_hand, reading_by_hand
from tests.test_desklines import shown
from tests.test_papers import paper_by_hand
from tests.test_sending import rows_by_hand
from tests.test_stores import blanks_by_hand, needed_pages, parts_by_reading, root_by_reading, save_by_hand, written
from tests.test_thinning import needed_by_hand
from tests.things import tidy_of


def part_text(part):
    return "{} {} days {} {} known {}".format(*part)


def said_text(part):
    return "{} days {} {} known {}".format(*part[1:])


def reading_text(reading):
    return "nothing" if reading is None else "{} known {}".format(*reading)


def paper_text(row):
    word, piece, reasons = row
    if word == "kept":
        return " ".join(["kept", part_text(piece), "at", *map(str, reasons)])
    return " ".join(["left", part_text(piece), *["by " + said_text(cover) for cover in reasons]])


class DeskByHand:
    """A desk that is told what a line says, by the words of points 123 to 126."""

    def __init__(self):
        self.frame = None

    def say(self, word, *things):
        if word == "frame":
            return self.begin(*things)
        if self.frame is None:
            raise NoFrame(None)
        if word in ("fetch", "pour", "lack", "send") and things[0] not in self.kept:
            raise NoName(things[0])
        if word in ("save", "purge", "open", "bears") and self.pages is None:
            raise NoDisk(None)
        if word in ("save", "purge") and self.dark is not None:
            raise Dark(self.dark)
        return getattr(self, "say_" + word)(*things)

    def begin(self, keys, days, turns):
        if len(set(keys)) < len(keys):
            raise NoFrame(list(keys))
        for number in (days, turns):
            if not 1 <= number <= 400:
                raise NoFrame(number)
        self.frame = Frame(keys, days, turns)
        self.atoms, self.rows, self.kept = {}, [], {}
        self.pages, self.dark = None, None
        return ["ok"]

    def parts(self, atoms=None):
        return parts_by_hand(self.frame, self.atoms if atoms is None else atoms)

    def turn_to(self, atoms):
        self.atoms = dict(atoms)
        return ["parts " + str(len(self.parts()))]

    def pour(self, atoms):
        if any(self.atoms.get(atom, atoms[atom]) != atoms[atom] for atom in atoms):
            raise Clash(1, 0)
        return self.turn_to({**self.atoms, **atoms})

    def say_find(self, finding):
        key, value, begin, end, known = finding
        if key not in self.frame.key_names() or not begin < end <= self.frame.days or known >= self.frame.turns:
            raise NoFinding(finding)
        return self.pour(atoms_of([finding]))

    def add(self, row):
        if len(self.rows) == 16:
            raise NoRights(self.rows + [row])
        self.rows.append(row)
        return ["rows " + str(len(self.rows))]

    def say_let(self, told):
        return self.add(("let", told))

    def say_bar(self, told):
        return self.add(("bar", told))

    def say_drop(self, number):
        if number >= len(self.rows):
            raise NoNumber(number)
        del self.rows[number]
        return ["rows " + str(len(self.rows))]

    def say_rights(self):
        return [word + " " + shown(told) for word, told in self.rows]

    def allowed(self):
        return allowed_points(self.frame, self.rows)

    def say_boxes(self):
        return [" ".join(map(str, box)) for box in tidy_of(self.frame, self.allowed())]

    def check_point(self, point):
        key, day, turn = point
        if key not in self.frame.key_names() or day >= self.frame.days or turn >= self.frame.turns:
            raise NoPoint(point)

    def say_ask(self, *point):
        self.check_point(point)
        place = place_by_hand(self.frame, self.rows, point)
        if place is not None:
            raise NotAllowed(point, place)
        return [reading_text(reading_by_hand(self.atoms, point))]

    def say_read(self, *point):
        self.check_point(point)
        return [reading_text(reading_by_hand(self.atoms, point))]

    def say_why(self, *point):
        self.check_point(point)
        return [f"{at} {word} {'yes' if holds_by_hand(self.frame, told, point) else 'no'}"
                for at, (word, told) in enumerate(self.rows)]

    def say_ladder(self, key, day):
        if key not in self.frame.key_names():
            raise NoKey(key)
        if day >= self.frame.days:
            raise NoNumber(day)
        readings = [reading_by_hand(self.atoms, (key, day, turn)) for turn in range(self.frame.turns)]
        turn, told = 0, []
        while turn < len(readings):
            first = turn
            while turn < len(readings) and readings[turn] == readings[first]:
                turn += 1
            told.append(f"{first} {turn} {reading_text(readings[first])}")
        return told

    def say_book(self):
        names = " ".join(self.frame.key_names())
        return [f"frame {names} days {self.frame.days} turns {self.frame.turns}", *map(part_text, self.parts())]

    def say_paper(self):
        paper = paper_by_hand(Book(self.frame, self.parts()), tidy_of(self.frame, self.allowed()))
        return [paper_text(row) for row in paper]

    def say_thin(self):
        least = needed_by_hand(self.atoms, self.allowed())
        left = {atom: self.atoms[atom] for atom in self.atoms if atom not in least}
        self.atoms = least
        return [part_text(part) for part in self.parts(left)]

    def say_keep(self, name):
        self.kept[name] = dict(self.atoms)
        return ["ok"]

    def say_fetch(self, name):
        return self.turn_to(self.kept[name])

    def say_pour(self, name):
        return self.pour(self.kept[name])

    def less(self, mine, theirs):
        return {atom: mine[atom] for atom in mine if theirs.get(atom) != mine[atom]}

    def say_lack(self, name):
        return [part_text(part) for part in self.parts(self.less(self.atoms, self.kept[name]))]

    def say_send(self, name):
        least, kept = needed_by_hand(self.atoms, self.allowed()), self.kept[name]
        for part in self.parts(kept):
            if self.less(atoms_of([part]), least):
                raise NotThinner(part)
        rows = rows_by_hand(self.frame, self.less(least, kept))
        self.kept[name] = dict(least)
        return [line for key, parts, check in rows for line in [f"row {key} {check}", *map(said_text, parts)]]

    def without(self, atoms, key):
        if key not in self.frame.key_names():
            raise NoKey(key)
        return {atom: atoms[atom] for atom in atoms if atom[0] != key}

    def say_forget(self, key):
        return self.turn_to(self.without(self.atoms, key))

    def say_store(self, many):
        if not 4 <= many <= 512:
            raise NoDisk(many)
        self.pages, self.dark = [BLANK] * many, None
        return ["ok"]

    def write(self, rows, many):
        enough = many is None or many >= 20 * len(rows)
        self.pages = written(self.pages, rows, None if enough else many)
        self.dark = None if enough else many
        if not enough:
            raise Dark(many)

    def save(self, atoms, many):
        book = Book(self.frame, self.parts(atoms))
        need = needed_pages(self.frame, self.pages, book)
        if need > len(self.pages):
            raise Full(need)
        count = root_by_reading(self.pages)[0] + 1
        self.write(save_by_hand(self.frame, self.pages, book)[1], many)
        return [f"count {count}"]

    def stored(self):
        return atoms_of(parts_by_reading(self.frame, self.pages))

    def say_save(self, many=None):
        return self.save(self.atoms, many)

    def say_purge(self, key, many=None):
        return self.save(self.without(self.stored(), key), many)

    def say_open(self, many=None):
        self.write(blanks_by_hand(self.pages, root_by_reading(self.pages)[1]), many)
        return self.turn_to(self.stored())

    def say_bears(self, key):
        self.without({}, key)
        parts = [finding_by_hand(self.frame, page) for page in self.pages]
        numbers = [str(at) for at, part in enumerate(parts) if part is not None and part[0] == key]
        return [" ".join(numbers)] if numbers else []
