"""Points 32 to 35: books."""

import random
import unittest

from leastlore.books import Book, book_of, same_book
from leastlore.errors import Clash, NoBook, NoFinding, NoKey, NoPoint
from leastlore.frames import Frame
from tests.test_findings import NO_FINDINGS
from tests.things import (
    GREAT, all_points, check_fields, check_found, check_new_each_time, copied, refusal, strange_things,
)

FRAME = Frame(["b", "a"], 5, 4)


def atoms_of(findings):
    """The atoms of findings, one by one: (key, day, known) to value."""
    return {(key, day, known): value for key, value, begin, end, known in findings for day in range(begin, end)}


def parts_by_hand(frame, atoms):
    """The parts that tell some atoms tidily, found by going through all of them."""
    parts = []
    for key in frame.key_names():
        for known in range(frame.turns):
            day = 0
            while day < frame.days:
                value = atoms.get((key, day, known))
                begin = day
                while day < frame.days and atoms.get((key, day, known)) == value:
                    day += 1
                if value is not None:
                    parts.append((key, value, begin, day, known))
    return parts


def reading_by_hand(atoms, point):
    key, day, turn = point
    for known in range(turn, -1, -1):
        if (key, day, known) in atoms:
            return (atoms[(key, day, known)], known)
    return None


def some_findings(chance, frame, most):
    """Findings that don't clash, in any order, some told again or cut."""
    atoms, found = {}, []
    for _ in range(chance.randrange(most + 1)):
        begin, end = sorted(chance.sample(range(frame.days + 1), 2))
        finding = (chance.choice(frame.key_names()), chance.choice(["x", "y", "00"]), begin, end,
                   chance.randrange(frame.turns))
        said = atoms_of([finding])
        if all(atoms.get(at, said[at]) == said[at] for at in said):
            atoms.update(said)
            found.append(finding)
    return found


def cut_up(chance, findings):
    """The same atoms, told by other findings in another order."""
    pieces = []
    for key, value, begin, end, known in findings:
        middle = chance.randrange(begin, end + 1)
        pieces += [(key, value, *days, known) for days in ((begin, middle), (middle, end)) if days[0] < days[1]]
        if chance.randrange(2):
            pieces.append((key, value, begin, end, known))
    chance.shuffle(pieces)
    return pieces


def some_frame(chance):
    return Frame(["b", "a", "ab"][:chance.randrange(1, 4)], chance.randrange(1, 8), chance.randrange(1, 6))


def clash_by_hand(findings):
    """Both numbers of the clash by the words of point 32, or None."""
    for at, finding in enumerate(findings):
        for other in range(at):
            mine, theirs = atoms_of([finding]), atoms_of([findings[other]])
            if any(theirs.get(atom, mine[atom]) != mine[atom] for atom in mine):
                return {"at": at, "other": other}
    return None


class Making(unittest.TestCase):

    def test_a_book_without_findings(self):
        for findings in ([], ()):
            book = Book(FRAME, findings)
            self.assertEqual(book.parts(), [])
            self.assertEqual(book.how_many_atoms(), 0)
            self.assertIsNone(book.read(("a", 0, 3)))
            self.assertEqual(book.told(), (FRAME.told(), ()))

    def test_the_frame_is_a_field(self):
        self.assertEqual(Book(frame=FRAME, findings=[]).frame.told(), FRAME.told())
        self.assertIs(type(Book(FRAME, []).frame), Frame)

    def test_what_is_no_list_and_no_tuple(self):
        for thing in strange_things() + ["", {}, {("a", "x", 0, 1, 0): 1}, Book(FRAME, [])]:
            if not isinstance(thing, (list, tuple)):
                check_found(self, NoFinding, thing, Book, FRAME, thing)

    def test_the_first_thing_that_is_no_finding(self):
        for wrong in NO_FINDINGS + strange_things() + [Book(FRAME, [])]:
            check_found(self, NoFinding, wrong, Book, FRAME, [wrong])
            check_found(self, NoFinding, wrong, Book, FRAME, (("a", "x", 0, 1, 0), wrong, None, ("c", "x", 0, 1, 0)))

    def test_no_finding_ahead_of_a_clash(self):
        clash = [("a", "x", 0, 1, 0), ("a", "y", 0, 1, 0)]
        wrong = ("a", "x", 0, 6, 0)
        check_found(self, NoFinding, wrong, Book, FRAME, clash + [wrong])
        check_fields(self, Clash, {"at": 1, "other": 0}, Book, FRAME, clash)

    def test_both_numbers_of_a_clash(self):
        findings = [("a", "x", 0, 1, 0), ("a", "x", 3, 5, 0), ("b", "y", 0, 5, 0), ("a", "y", 0, 5, 1),
                    ("a", "y", 1, 3, 0), ("a", "x", 2, 4, 0), ("a", "z", 0, 5, 0)]
        check_fields(self, Clash, {"at": 5, "other": 4}, Book, FRAME, findings)
        check_fields(self, Clash, {"at": 5, "other": 0}, Book, FRAME, findings[:5] + findings[6:])
        check_fields(self, Clash, {"at": 1, "other": 0}, Book, FRAME, [("a", "x", 4, 5, 3), ("a", "y", 0, 5, 3)])
        self.assertEqual(len(Book(FRAME, findings[:5]).parts()), 5)

    def test_no_clash_with_what_only_touches(self):
        beside = [("a", "x", 0, 2, 0), ("a", "x", 4, 5, 0)]
        self.assertEqual(len(Book(FRAME, beside + [("a", "y", 2, 4, 0)]).parts()), 3)
        findings = beside + [("a", "x", 3, 4, 0), ("a", "y", 2, 4, 0)]
        check_fields(self, Clash, {"at": 3, "other": 2}, Book, FRAME, findings)

    def test_clashes_by_hand(self):
        chance = random.Random(32)
        clashed = 0
        for _ in range(600):
            frame = Frame(["b", "a"], 6, 2)
            keys, knowns = chance.choice([("ab", [0, 1]), ("a", [0])])
            findings = []
            for _ in range(chance.randrange(7)):
                begin, end = sorted(chance.sample(range(7), 2))
                findings.append((chance.choice(keys), chance.choice("xyz"), begin, end, chance.choice(knowns)))
            fields = clash_by_hand(findings)
            if fields is None:
                self.assertEqual(Book(frame, findings).parts(), parts_by_hand(frame, atoms_of(findings)))
            else:
                clashed += 1
                check_fields(self, Clash, fields, Book, frame, findings)
        self.assertGreater(clashed, 50)

    def test_cut_told_again_and_in_another_order(self):
        chance = random.Random(33)
        for _ in range(200):
            frame = some_frame(chance)
            findings = some_findings(chance, frame, 9)
            book = Book(frame, findings)
            again = Book(frame, tuple(cut_up(chance, findings)))
            self.assertEqual(again.parts(), book.parts())
            self.assertIs(same_book(book, again), True)
            self.assertLessEqual(len(book.parts()), len(findings))

    def test_asked_again_asked_of_another_and_asked_amiss(self):
        findings = [("a", "x", 0, 2, 0), ("b", "y", 1, 2, 3), ("a", "y", 1, 4, 2)]
        book, other = Book(FRAME, findings), Book(Frame(("b", "a"), 5, 4), tuple(findings))
        for _ in range(2):
            for asked in (book, other):
                self.assertEqual([asked.read(point) for point in all_points(FRAME)],
                                 [reading_by_hand(atoms_of(findings), point) for point in all_points(FRAME)])
                self.assertEqual(asked.told(), (FRAME.told(), (findings[1], findings[0], findings[2])))
            refusal(self, NoPoint, book.read, ("a", 5, 0))
            refusal(self, NoKey, book.parts_of, "c")
            refusal(self, NoFinding, book.has_all, ("a", "x", 0, 6, 0))

    def test_what_is_changed_afterwards_changes_nothing(self):
        findings = [("a", "x", 0, 2, 0), ("b", "y", 1, 2, 3)]
        before = copied(findings)
        book = Book(FRAME, findings)
        self.assertEqual(findings, before)
        findings.clear()
        self.assertEqual(book.parts(), [before[1], before[0]])
        for call in (book.parts, lambda: book.parts_of("a"), lambda: book.parts_of("b")):
            check_new_each_time(self, call)


class Parts(unittest.TestCase):

    def test_parts_by_hand(self):
        chance = random.Random(34)
        for _ in range(200):
            frame = some_frame(chance)
            findings = some_findings(chance, frame, 9)
            atoms = atoms_of(findings)
            book = Book(frame, findings)
            parts = parts_by_hand(frame, atoms)
            self.assertEqual(book.parts(), parts)
            self.assertIs(type(book.parts()), list)
            self.assertEqual(book.how_many_atoms(), len(atoms))
            for key in frame.key_names():
                self.assertEqual(book.parts_of(key), [part for part in parts if part[0] == key])

    def test_order_and_joining(self):
        book = Book(FRAME, [("a", "x", 3, 5, 1), ("a", "y", 2, 3, 1), ("a", "x", 0, 1, 1), ("a", "x", 1, 2, 1),
                            ("a", "z", 4, 5, 0), ("b", "x", 0, 5, 3), ("a", "x", 0, 5, 2), ("a", "x", 2, 4, 2)])
        self.assertEqual(book.parts(), [("b", "x", 0, 5, 3), ("a", "z", 4, 5, 0), ("a", "x", 0, 2, 1),
                                        ("a", "y", 2, 3, 1), ("a", "x", 3, 5, 1), ("a", "x", 0, 5, 2)])
        self.assertEqual(book.how_many_atoms(), 16)
        self.assertEqual(book.parts_of(key="b"), [("b", "x", 0, 5, 3)])

    def test_parts_of_no_key(self):
        book = Book(FRAME, [("a", "x", 0, 1, 0)])
        for thing in strange_things() + ["c", "aa", 0, ["a"], ("a",)]:
            check_found(self, NoKey, thing, book.parts_of, thing)

    def test_has_all_by_hand(self):
        chance = random.Random(35)
        for _ in range(40):
            frame = some_frame(chance)
            findings = some_findings(chance, frame, 8)
            atoms = atoms_of(findings)
            book = Book(frame, findings)
            for _ in range(60):
                begin, end = sorted(chance.sample(range(frame.days + 1), 2))
                asked = (chance.choice(frame.key_names()), chance.choice(["x", "y", "00"]), begin, end,
                         chance.randrange(frame.turns))
                said = atoms_of([asked])
                self.assertIs(book.has_all(asked), all(atoms.get(at) == said[at] for at in said))
            for finding in findings:
                self.assertIs(book.has_all(finding=finding), True)

    def test_has_all_at_edges(self):
        book = Book(FRAME, [("a", "x", 1, 3, 1), ("a", "x", 4, 5, 1)])
        self.assertIs(book.has_all(("a", "x", 1, 3, 1)), True)
        for finding in (("a", "x", 0, 2, 1), ("a", "x", 2, 4, 1), ("a", "x", 1, 5, 1), ("a", "x", 1, 3, 0),
                        ("a", "x", 1, 3, 2), ("a", "y", 1, 3, 1), ("b", "x", 1, 3, 1)):
            self.assertIs(book.has_all(finding), False, finding)

    def test_has_all_of_no_finding(self):
        book = Book(FRAME, [("a", "x", 0, 1, 0)])
        for thing in NO_FINDINGS + strange_things():
            check_found(self, NoFinding, thing, book.has_all, thing)


class Reading(unittest.TestCase):

    def test_against_atoms(self):
        chance = random.Random(36)
        for _ in range(80):
            frame = some_frame(chance)
            findings = some_findings(chance, frame, 9)
            atoms = atoms_of(findings)
            book = Book(frame, findings)
            parts = parts_by_hand(frame, atoms)
            for point in all_points(frame):
                reading = reading_by_hand(atoms, point)
                self.assertEqual(book.read(point), reading)
                expected = None
                if reading is not None:
                    expected, = [part for part in parts if (part[0], part[1], part[4]) == (point[0], *reading)
                                 and part[2] <= point[1] < part[3]]
                self.assertEqual(book.speaker(point), expected)

    def test_at_the_known_turn_ahead_of_it_and_at_the_last(self):
        book = Book(FRAME, [("a", "x", 1, 3, 1), ("a", "y", 2, 4, 3)])
        self.assertIsNone(book.read(("a", 1, 0)))
        self.assertEqual(book.read(("a", 1, 1)), ("x", 1))
        self.assertEqual(book.read(("a", 1, 3)), ("x", 1))
        self.assertEqual(book.read(("a", 2, 2)), ("x", 1))
        self.assertEqual(book.read(point=("a", 2, 3)), ("y", 3))
        self.assertEqual(book.speaker(point=("a", 2, 3)), ("a", "y", 2, 4, 3))
        self.assertEqual(book.speaker(("a", 2, 2)), ("a", "x", 1, 3, 1))
        for point in (("a", 0, 3), ("a", 4, 3), ("b", 2, 3), ("a", 3, 2)):
            self.assertIsNone(book.read(point))
            self.assertIsNone(book.speaker(point))

    def test_no_point(self):
        book = Book(FRAME, [("a", "x", 0, 5, 0)])
        wrong = [("c", 0, 0), ("a", 5, 0), ("a", 0, 4), ("a", -1, 0), ("a", 0, -1), ["a", 0, 0], ("a", 0),
                 ("a", 0, 0, 0), ("a", True, 0), ("a", 0, False), (["a"], 0, 0), ("a", [0], 0)]
        for thing in wrong + strange_things():
            check_found(self, NoPoint, thing, book.read, thing)
            check_found(self, NoPoint, thing, book.speaker, thing)


class Told(unittest.TestCase):

    def test_made_again(self):
        chance = random.Random(37)
        for _ in range(60):
            frame = some_frame(chance)
            book = Book(frame, some_findings(chance, frame, 9))
            told = book.told()
            self.assertEqual(told, (frame.told(), tuple(book.parts())))
            self.assertIs(type(told[1]), tuple)
            again = book_of(told=told)
            self.assertEqual(again.told(), told)
            self.assertIs(same_book(one=book, other=again), True)
            self.assertEqual(again.frame.told(), frame.told())

    def test_parts_in_another_order_or_not_tidy(self):
        frame = FRAME.told()
        wrong = [
            (("a", "x", 0, 1, 0), ("b", "x", 0, 1, 0)), (("a", "x", 0, 1, 1), ("a", "x", 0, 1, 0)),
            (("a", "x", 2, 3, 0), ("a", "x", 0, 1, 0)), (("a", "x", 0, 1, 0), ("a", "x", 1, 2, 0)),
            (("a", "x", 0, 1, 0), ("a", "x", 0, 1, 0)), (("a", "x", 0, 2, 0), ("a", "x", 1, 3, 0)),
            (("a", "x", 0, 1, 0), ("a", "y", 0, 1, 0)),
        ]
        for parts in wrong:
            told = (frame, parts)
            check_found(self, NoBook, told, book_of, told)
        good = (frame, (("b", "x", 0, 1, 0), ("a", "x", 0, 1, 0), ("a", "y", 1, 2, 0), ("a", "x", 0, 1, 1)))
        self.assertEqual(book_of(good).told(), good)

    def test_what_no_book_tells_is_refused_whole(self):
        frame, parts = FRAME.told(), (("a", "x", 0, 1, 0),)
        wrong = [[frame, parts], (frame,), (frame, parts, ()), (frame, list(parts)), (list(frame), parts),
                 (FRAME, parts), (frame, (list(parts[0]),)), (frame, parts[0]), ((("a",), 0, 1), parts),
                 ((["b", "a"], 5, 4), parts), (frame, "x"), (frame, {}), (frame, None), (None, parts),
                 (frame, (("a", "x", False, 1, 0),)), (frame, (("a", "x", 0, True, 0),)), Book(FRAME, [])]
        wrong += [(frame, (thing,)) for thing in NO_FINDINGS]
        wrong += [(thing, parts) for thing in strange_things()]
        wrong += [(frame, thing) for thing in strange_things() if thing != ()]
        for thing in wrong + strange_things():
            check_found(self, NoBook, thing, book_of, thing)

    def test_same_books(self):
        book = Book(FRAME, [("a", "x", 0, 2, 0)])
        self.assertIs(same_book(book, book), True)
        self.assertIs(same_book(book, Book(Frame(("b", "a"), 5, 4), [("a", "x", 1, 2, 0), ("a", "x", 0, 1, 0)])), True)
        for other in (Book(FRAME, []), Book(FRAME, [("a", "y", 0, 2, 0)]), Book(FRAME, [("a", "x", 0, 2, 1)]),
                      Book(Frame(["b", "a"], 5, 5), [("a", "x", 0, 2, 0)]),
                      Book(Frame(["a", "b"], 5, 4), [("a", "x", 0, 2, 0)])):
            self.assertIs(same_book(book, other), False)
            self.assertIs(same_book(other, book), False)


class Great(unittest.TestCase):

    def test_as_many_findings_as_may_be(self):
        chance = random.Random(38)
        findings = []
        while len(findings) < 320:
            findings = some_findings(chance, GREAT, 400)[:320]
        book = Book(GREAT, findings)
        self.assertEqual(len(findings), 320)
        atoms = atoms_of(findings)
        self.assertEqual(book.how_many_atoms(), len(atoms))
        self.assertEqual(same_book(book, Book(GREAT, cut_up(chance, findings)[:])), True)
        self.assertEqual(book_of(book.told()).parts(), book.parts())
        for _ in range(400):
            point = (chance.choice(GREAT.key_names()), chance.randrange(400), chance.randrange(400))
            self.assertEqual(book.read(point), reading_by_hand(atoms, point))

    def test_first_and_last_days_and_turns(self):
        book = Book(GREAT, [("kl", "x", 399, 400, 399), ("kl", "y", 0, 400, 0), ("ka", "z", 0, 1, 399)])
        self.assertEqual(book.read(("kl", 399, 399)), ("x", 399))
        self.assertEqual(book.read(("kl", 399, 398)), ("y", 0))
        self.assertEqual(book.read(("kl", 0, 0)), ("y", 0))
        self.assertIsNone(book.read(("ka", 0, 398)))
        self.assertEqual(book.parts()[0], ("ka", "z", 0, 1, 399))

    def test_many_findings_of_one_day_told_the_same(self):
        findings = [("ka", "x", at, 400, 7) for at in range(319, -1, -1)]
        self.assertEqual(Book(GREAT, findings).parts(), [("ka", "x", 0, 400, 7)])
        error = refusal(self, Clash, Book, GREAT, findings[:319] + [("ka", "y", 0, 400, 7)])
        self.assertEqual((error.at, error.other), (319, 0))
