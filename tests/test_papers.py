"""Points 73 to 75: papers, right ones, and the books of their kept pieces."""

import random
import unittest

from leastlore.books import Book, same_book
from leastlore.boxsets import all_boxes, boxes_of
from leastlore.errors import Clash, NoBook, NoBoxes, NoFrame, NoPaper
from leastlore.findings import is_finding
from leastlore.frames import Frame
from leastlore.papers import book_by, is_paper, paper_of
from leastlore.thinning import thin
from tests.test_books import atoms_of, parts_by_hand, some_findings, some_frame
from tests.test_boxsets import great_boxes, tidy_boxes
from tests.test_findings import NO_FINDINGS
from tests.test_speaking import no_tidy
from tests.test_thinning import needed_by_hand
from tests.things import (
    GREAT, SIXTY, check_fields, check_found, check_new_each_time, copied, points_of, strange_things,
)

FRAME = Frame(["b", "a"], 9, 9)
PIECE = ("a", "red", 0, 2, 5)
COVER = ("a", "blue", 2, 4, 6)
KEPT = ("kept", PIECE, (7, 5))
LEFT = ("left", ("a", "red", 2, 9, 5), (COVER, ("a", "red", 4, 9, 8)))

# Rows that no paper has, whatever frame it is of.
NO_ROWS = [
    ["kept", PIECE, (7, 5)], ("kept", PIECE), ("kept", PIECE, (7, 5), ()), ("keep", PIECE, (7, 5)),
    ("Kept", PIECE, (7, 5)), ("", PIECE, (7, 5)), (None, PIECE, (7, 5)), (["kept"], PIECE, (7, 5)),
    ("kept", list(PIECE), (7, 5)), ("kept", None, (7, 5)), ("kept", PIECE, [7, 5]), ("kept", PIECE, None),
    ("kept", PIECE, "75"), ("kept", PIECE, {7: 5}), ("kept", PIECE, ()), ("kept", PIECE, (7,)), ("kept", PIECE, (7, 5, 5)),
    ("kept", PIECE, (7, 400)), ("kept", PIECE, (7, -1)), ("kept", PIECE, (True, 5)), ("kept", PIECE, (7, False)),
    ("kept", PIECE, (7, "5")), ("kept", PIECE, (7, None)), ("kept", PIECE, (7, [5])), ("kept", PIECE, (7, (5,))),
    ("kept", PIECE, (SIXTY, 5)), ("kept", ("a", "red", False, 2, 5), (7, 5)), ("kept", ("a", "red", 0, 2, True), (7, 5)),
    ("kept", ("now", "red", 0, 2, 5), (7, 5)), ("kept", ("a", "Red", 0, 2, 5), (7, 5)), ("kept", PIECE, (COVER, COVER)),
    ("kept", ("a", "red", 2, 2, 5), ()), ("kept", ("a", "red", 3, 2, 5), (7,)), ("kept", ("a", "red", 0, 401, 5), (7,) * 401),
    ("kept", ("a", "red", 0, 2, 400), (7, 5)), ("left", PIECE, [COVER]), ("left", PIECE, COVER), ("left", PIECE, (7, 5)),
    ("left", PIECE, (list(COVER),)), ("left", PIECE, (None,)), ("left", PIECE, (COVER, ())), ("left", list(PIECE), ()),
    ("left", PIECE, (("b", "blue", 2, 4, 6),)), ("left", PIECE, (("a", "blue", 2, True, 6),)), ("left", PIECE),
    ("left", PIECE, (("a", "blue", 2, 4),)), ("left", PIECE, (("a", "blue", 2, 4, True),)), ("left", PIECE, None),
    ("keep", PIECE, ()), ("", PIECE, (COVER,)), (None, PIECE, ()), (["left"], PIECE, ()), ("Left", PIECE, (COVER,)),
    ("left", PIECE, (("a", "blue", 4, 4, 6),)), ("left", PIECE, (COVER, ("a", "blue", 0, 401, 6))), "kept", PIECE,
]


def paper_by_hand(book, boxes):
    """The paper by the words of point 73, day by day."""
    atoms, points = atoms_of(book.parts()), points_of(boxes)
    needed = needed_by_hand(atoms, points)
    thinned = parts_by_hand(book.frame, needed)
    rows = []
    for key, value, begin, end, known in book.parts():
        day = begin
        while day < end:
            first, held = day, (key, day, known) in needed
            while day < end and ((key, day, known) in needed) == held:
                day += 1
            piece = (key, value, first, day, known)
            if held:
                turns = [min(turn for name, at, turn in points
                             if (name, at) == (key, one) and book.read((name, at, turn)) == (value, known))
                         for one in range(first, day)]
                rows.append(("kept", piece, tuple(turns)))
            else:
                covers = [part for part in thinned if part[0] == key and part[4] > known
                          and set(range(part[2], part[3])) & set(range(first, day))]
                rows.append(("left", piece, tuple(covers)))
    return rows


def cut_by_hand(parts, pieces):
    """Whether pieces cut parts by the words of point 74."""
    left = list(pieces)
    for key, value, begin, end, known in parts:
        day = begin
        while day < end:
            if not left or (left[0][0], left[0][1], left[0][4]) != (key, value, known) or left[0][2] != day:
                return False
            day = left.pop(0)[3]
        if day != end:
            return False
    return not left


def right_by_hand(book, boxes, thing):
    """Whether a thing is a right paper by the words of point 74, point by point."""
    points = points_of(boxes)
    if type(thing) is not list:
        return False
    for row in thing:
        if type(row) is not tuple or len(row) != 3 or row[0] not in ("kept", "left") or type(row[2]) is not tuple:
            return False
        if not is_finding(book.frame, row[1]):
            return False
    if not cut_by_hand(book.parts(), [row[1] for row in thing]):
        return False
    kept = [row[1] for row in thing if row[0] == "kept"]
    return all(row_is_right(book, points, kept, row) for row in thing)


def row_is_right(book, points, kept, row):
    word, (key, value, begin, end, known), reasons = row
    if word == "kept":
        return len(reasons) == end - begin and all(
            type(turn) is int and (key, day, turn) in points and book.read((key, day, turn)) == (value, known)
            for day, turn in zip(range(begin, end), reasons))
    for cover in reasons:
        if not any(repr(cover) == repr(piece) for piece in kept) or cover[0] != key or cover[4] <= known:
            return False
    return all(any(cover[2] <= day < cover[3] and cover[4] <= turn for cover in reasons)
               for name, day, turn in points if name == key and begin <= day < end and turn >= known)


def cut_finer(chance, paper):
    """The same paper, its pieces cut more; a cover that is cut comes as its pieces."""
    cuts = {}
    rows = []
    for word, (key, value, begin, end, known), reasons in paper:
        middle = chance.randrange(begin, end + 1)
        stretches = [(at, to) for at, to in ((begin, middle), (middle, end)) if at < to]
        pieces = [(key, value, at, to, known) for at, to in stretches]
        cuts[(key, value, begin, end, known)] = pieces
        for piece in pieces:
            own = reasons[piece[2] - begin:piece[3] - begin] if word == "kept" else reasons
            rows.append((word, piece, own))
    return [row if row[0] == "kept" else (row[0], row[1], tuple(piece for cover in row[2] for piece in cuts.get(cover, [])))
            for row in rows]


def changed_row(chance, paper, row):
    """A row with one thing changed."""
    word, piece, reasons = row
    kind = chance.randrange(8)
    if kind == 0:
        return ("left" if word == "kept" else "kept", piece, reasons)
    if kind == 1:
        at = chance.randrange(5)
        new = chance.choice([("a", "b", "ab"), ("x", "y", "00"), (0, 1, 2, 3), (1, 2, 3, 4, 5), (0, 1, 2, 3)][at])
        return (word, piece[:at] + (new,) + piece[at + 1:], reasons)
    if kind == 2:
        return (word, piece, reasons[:-1])
    if kind == 3:
        return (word, piece, reasons + reasons[:1] if chance.randrange(2) else reasons + (chance.choice(paper)[1],))
    if kind == 4 and reasons:
        at = chance.randrange(len(reasons))
        new = chance.randrange(6) if word == "kept" else chance.choice(paper)[1]
        return (word, piece, reasons[:at] + (new,) + reasons[at + 1:])
    if kind == 5 and reasons:
        at = chance.randrange(len(reasons))
        return (word, piece, reasons[:at] + (chance.choice([True, False, None, [], reasons]),) + reasons[at + 1:])
    if kind == 6:
        return (word, piece, reasons[::-1])
    return chance.choice([[word, piece, reasons], (word, list(piece), reasons), (word, piece, list(reasons)),
                          (word, piece), (word, piece, reasons, 0), (word, reasons, piece)])


def changed_paper(chance, paper):
    """A paper with one thing changed."""
    if not paper:
        return chance.choice([(), [()], None])
    at = chance.randrange(len(paper))
    kind = chance.randrange(10)
    if kind == 0:
        return paper[:at] + paper[at + 1:]
    if kind == 1:
        return paper[:at] + [paper[at]] + paper[at:]
    if kind == 2:
        other = chance.randrange(len(paper))
        swapped = list(paper)
        swapped[at], swapped[other] = paper[other], paper[at]
        return swapped
    return paper[:at] + [changed_row(chance, paper, paper[at])] + paper[at + 1:]


class Papers(unittest.TestCase):

    def test_row_by_row(self):
        chance = random.Random(73)
        for _ in range(200):
            frame = some_frame(chance)
            book, boxes = Book(frame, some_findings(chance, frame, 9)), tidy_boxes(chance, frame, 4)
            paper = paper_of(book, boxes)
            self.assertEqual(paper, paper_by_hand(book, boxes))
            self.assertIs(right_by_hand(book, boxes, paper), True)
            self.assertIs(is_paper(book, boxes, copied(paper)), True)
            self.assertIs(same_book(book_by(frame, paper), thin(book, boxes)), True)

    def test_no_boxes_all_points_and_books_without_findings(self):
        findings = [("b", "x", 0, 5, 1), ("a", "x", 1, 4, 0), ("a", "y", 0, 2, 2)]
        book, none = Book(FRAME, findings), Book(FRAME, [])
        self.assertEqual(paper_of(book=book, boxes=[]), [("left", part, ()) for part in findings])
        self.assertEqual(paper_of(book, all_boxes(FRAME)), [("kept", part, (part[4],) * (part[3] - part[2]))
                                                            for part in findings])
        self.assertEqual(paper_of(none, all_boxes(FRAME)), [])
        for boxes in ([], all_boxes(FRAME)):
            self.assertIs(is_paper(book=book, boxes=boxes, thing=paper_of(book, boxes)), True)
            self.assertIs(is_paper(none, boxes, []), True)
            self.assertIs(is_paper(none, boxes, ()), False)
            self.assertIs(is_paper(book, boxes, []), False)

    def test_several_covers_together_and_one_day_that_two_cover(self):
        findings = [("a", "red", 0, 9, 1), ("a", "blue", 0, 4, 3), ("a", "green", 3, 9, 5), ("b", "red", 0, 9, 5)]
        book = Book(FRAME, findings)
        boxes = [("a", 0, 9, 3, 4), ("a", 0, 9, 5, 6)]
        late = boxes_of(FRAME, [("a", 0, 4, 3, 6), ("a", 4, 9, 5, 6)])
        self.assertEqual(paper_of(book, late), [
            ("left", ("b", "red", 0, 9, 5), ()),
            ("left", ("a", "red", 0, 9, 1), (findings[1], findings[2])),
            ("kept", ("a", "blue", 0, 4, 3), (3, 3, 3, 3)),
            ("kept", ("a", "green", 3, 9, 5), (5,) * 6)])
        self.assertEqual(paper_of(book, boxes)[1:3], [
            ("left", ("a", "red", 0, 4, 1), (findings[1], findings[2])),
            ("kept", ("a", "red", 4, 9, 1), (3,) * 5)])
        paper = paper_of(book, late)
        for covers, right in (((findings[1], findings[2]), True), ((findings[2], findings[1]), True),
                              ((findings[1],), False), ((findings[2],), False), ((), False),
                              ((findings[1], findings[1], findings[2]), True),
                              ((findings[1], findings[2], ("a", "red", 0, 9, 1)), False),
                              ((findings[1], findings[2], findings[3]), False)):
            thing = [paper[0], ("left", findings[0], covers)] + paper[2:]
            self.assertIs(is_paper(book, late, thing), right)
            self.assertIs(right_by_hand(book, late, thing), right)

    def test_covers_side_by_side_and_of_another_key(self):
        findings = [("b", "red", 0, 9, 3), ("a", "red", 0, 9, 1), ("a", "blue", 0, 2, 3), ("a", "green", 2, 4, 3),
                    ("a", "blue", 4, 6, 3), ("a", "green", 6, 9, 3)]
        book = Book(FRAME, findings)
        boxes = [("b", 0, 9, 3, 9), ("a", 0, 9, 3, 9)]
        paper = paper_of(book, boxes)
        covers = tuple(findings[2:])
        self.assertEqual(paper[1], ("left", findings[1], covers))
        self.assertIs(is_paper(book, boxes, paper), True)
        for at in range(4):
            left = ("left", findings[1], covers[:at] + covers[at + 1:])
            self.assertIs(is_paper(book, boxes, [paper[0], left] + paper[2:]), False)
        for more in (findings[0], ("a", "red", 0, 9, 1), ("a", "blue", 0, 1, 3)):
            left = ("left", findings[1], covers + (more,))
            self.assertIs(is_paper(book, boxes, [paper[0], left] + paper[2:]), False)

    def test_strange_words(self):
        book = Book(FRAME, [PIECE, COVER])
        boxes = [("a", 0, 9, 6, 9)]
        paper = paper_of(book, boxes)
        self.assertEqual([row[0] for row in paper], ["kept", "kept"])
        for word in ["keep", "", "Left", None, ["kept"], True, 0, ("left",), "kept ", {}]:
            for at in (0, 1):
                row = (word, *paper[at][1:])
                self.assertIs(is_paper(book, boxes, paper[:at] + [row] + paper[at + 1:]), False)

    def test_kept_turns_behind_the_first_ones_are_right_too(self):
        book = Book(FRAME, [("a", "red", 0, 2, 1), ("a", "blue", 0, 1, 6)])
        boxes = [("a", 0, 2, 0, 9)]
        for turns, right in (((1, 1), True), ((5, 8), True), ((6, 1), False), ((0, 1), False), ((1, 0), False),
                             ((1, 9), False), ((True, 1), False), ((1,), False), ((1, 1, 1), False), ((-1, 1), False)):
            thing = [("kept", ("a", "red", 0, 2, 1), turns), ("kept", ("a", "blue", 0, 1, 6), (6,))]
            self.assertIs(is_paper(book, boxes, thing), right, turns)
            self.assertIs(right_by_hand(book, boxes, thing), right, turns)
        hole = [("a", 0, 2, 0, 3), ("a", 0, 2, 4, 9)]
        self.assertIs(is_paper(book, hole, [("kept", ("a", "red", 0, 2, 1), (3, 1)), thing[1]]), False)
        self.assertIs(is_paper(book, hole, [("kept", ("a", "red", 0, 2, 1), (4, 1)), thing[1]]), True)

    def test_a_day_that_is_needed_cannot_be_left(self):
        book = Book(FRAME, [("a", "red", 0, 2, 1), ("a", "blue", 0, 2, 6)])
        last = ("kept", ("a", "blue", 0, 2, 6), (6, 6))
        for boxes, right in (([("a", 0, 2, 6, 9)], True), ([("a", 0, 2, 5, 9)], False),
                             ([("a", 0, 2, 0, 1), ("a", 0, 2, 6, 9)], True)):
            for thing in ([("left", ("a", "red", 0, 2, 1), (last[1],)), last],
                          [("left", ("a", "red", 0, 1, 1), (last[1],)), ("left", ("a", "red", 1, 2, 1), (last[1],)), last]):
                self.assertIs(is_paper(book, boxes, thing), right)
                self.assertIs(right_by_hand(book, boxes, thing), right)

    def test_cut_more_than_need_be(self):
        chance = random.Random(741)
        for _ in range(150):
            frame = some_frame(chance)
            book, boxes = Book(frame, some_findings(chance, frame, 7)), tidy_boxes(chance, frame, 4)
            finer = cut_finer(chance, paper_of(book, boxes))
            self.assertIs(right_by_hand(book, boxes, finer), True)
            self.assertIs(is_paper(book, boxes, finer), True)
            self.assertIs(same_book(book_by(frame, finer), thin(book, boxes)), True)

    def test_with_one_thing_changed(self):
        chance = random.Random(74)
        right = 0
        for _ in range(1500):
            frame = some_frame(chance)
            book, boxes = Book(frame, some_findings(chance, frame, 6)), tidy_boxes(chance, frame, 4)
            paper = paper_of(book, boxes)
            if chance.randrange(3) == 0:
                paper = cut_finer(chance, paper)
            thing = changed_paper(chance, paper)
            expected = right_by_hand(book, boxes, thing)
            self.assertIs(is_paper(book, boxes, thing), expected, (book.parts(), boxes, thing))
            if expected:
                right += 1
                self.assertIs(same_book(book_by(frame, thing), thin(book, boxes)), True)
        self.assertGreater(right, 100)

    def test_any_thing_as_a_paper(self):
        book = Book(FRAME, [PIECE, COVER])
        boxes = all_boxes(FRAME)
        paper = paper_of(book, boxes)
        for thing in strange_things() + NO_ROWS + [tuple(paper), paper[::-1], None, dict(enumerate(paper))]:
            self.assertIs(is_paper(book, boxes, thing), False, thing)
            self.assertIs(is_paper(book, boxes, [thing]), False, thing)
            self.assertIs(is_paper(book, boxes, paper + [thing]), False, thing)
            if thing != PIECE:
                self.assertIs(is_paper(book, boxes, [("kept", PIECE, thing), paper[1]]), False, thing)
                self.assertIs(is_paper(book, boxes, [("kept", thing, (5, 5)), paper[1]]), False, thing)
            self.assertIs(is_paper(book, [("a", 0, 9, 6, 9)], [("left", PIECE, (thing,)), paper[1]]), False, thing)

    def test_refused(self):
        book = Book(Frame(["b", "a"], 5, 4), [("a", "red", 0, 2, 1)])
        for thing in strange_things() + [book.told(), Book, [PIECE], FRAME]:
            check_found(self, NoBook, thing, paper_of, thing, None)
            check_found(self, NoBook, thing, is_paper, thing, None, None)
        for thing in no_tidy():
            check_found(self, NoBoxes, thing, paper_of, book, thing)
            check_found(self, NoBoxes, thing, is_paper, book, thing, None)

    def test_new_each_time_and_nothing_changed(self):
        book = Book(FRAME, [PIECE, COVER])
        check_new_each_time(self, paper_of, book, [("a", 0, 9, 0, 6)])
        self.assertEqual(book.parts(), [PIECE, COVER])
        again = Book(Frame(("b", "a"), 9, 9), [COVER, PIECE])
        self.assertEqual(paper_of(book, all_boxes(FRAME)), paper_of(again, all_boxes(FRAME)))

    def test_as_many_as_may_be_in_a_great_frame(self):
        chance = random.Random(75)
        findings = []
        while len(findings) < 300:
            findings = some_findings(chance, GREAT, 500)[:320]
        book, boxes = Book(GREAT, findings), boxes_of(GREAT, great_boxes(chance))
        paper = paper_of(book, boxes)
        self.assertIs(is_paper(book, boxes, paper), True)
        self.assertIs(same_book(book_by(GREAT, paper), thin(book, boxes)), True)
        for row in chance.sample(paper, 40):
            at = paper.index(row)
            other = ("left", row[1], ()) if row[0] == "kept" else ("kept", row[1], (row[1][4],) * (row[1][3] - row[1][2]))
            self.assertIs(is_paper(book, boxes, paper[:at] + [other] + paper[at + 1:]), False)

    def test_thousands_of_rows(self):
        book = Book(GREAT, [("ka", "x", at, 400, at) for at in range(320)])
        comb = boxes_of(GREAT, [("ka", day, day + 1, 0, 400) for day in range(0, 400, 2)])
        paper = paper_of(book, comb)
        self.assertGreater(len(paper), 70000)
        self.assertIs(is_paper(book, comb, paper), True)
        self.assertIs(same_book(book_by(GREAT, paper), thin(book, comb)), True)


class Kept(unittest.TestCase):

    def test_the_book_of_the_kept_pieces(self):
        self.assertEqual(book_by(frame=FRAME, paper=[KEPT, LEFT]).parts(), [PIECE])
        self.assertEqual(book_by(FRAME, []).parts(), [])
        self.assertEqual(book_by(FRAME, [LEFT]).parts(), [])
        both = [("kept", ("a", "red", 1, 2, 5), (5,)), KEPT, ("kept", ("b", "red", 0, 9, 5), (0,) * 9)]
        self.assertEqual(book_by(FRAME, both).parts(), [("b", "red", 0, 9, 5), PIECE])
        self.assertEqual(book_by(FRAME, both).frame.told(), FRAME.told())

    def test_no_frame_first(self):
        for thing in strange_things() + [FRAME.told(), Frame]:
            if not isinstance(thing, Frame):
                check_found(self, NoFrame, thing, book_by, thing, [KEPT])
                check_found(self, NoFrame, thing, book_by, thing, None)

    def test_no_paper(self):
        for thing in strange_things() + [(KEPT,), (), None, "", {}]:
            if thing != [] or not isinstance(thing, list):
                check_found(self, NoPaper, thing, book_by, FRAME, thing)
        for row in NO_ROWS + strange_things():
            for paper in ([row], [KEPT, row], [LEFT, KEPT, row, KEPT]):
                check_found(self, NoPaper, paper, book_by, FRAME, paper)
        for finding in NO_FINDINGS:
            if not is_finding(FRAME, finding):
                paper = [KEPT, ("kept", finding, (0,))]
                check_found(self, NoPaper, paper, book_by, FRAME, paper)

    def test_kept_pieces_of_other_frames(self):
        for piece in (("c", "red", 0, 2, 5), ("a", "red", 8, 10, 5), ("a", "red", 0, 2, 9), ("a", "red", 398, 400, 399)):
            paper = [KEPT, ("kept", piece, (399, 0))]
            check_found(self, NoPaper, paper, book_by, FRAME, paper)
            # What was left may be of any frame.
            self.assertEqual(book_by(FRAME, [KEPT, ("left", piece, (piece,))]).parts(), [PIECE])
        self.assertEqual(book_by(GREAT, [("kept", ("kl", "red", 399, 400, 399), (399,))]).how_many_atoms(), 1)

    def test_pieces_that_clash(self):
        one, other = ("kept", ("a", "red", 0, 2, 5), (5, 5)), ("kept", ("a", "blue", 1, 2, 5), (5,))
        check_fields(self, Clash, {"at": 1, "other": 0}, book_by, FRAME, [one, other])
        check_fields(self, Clash, {"at": 2, "other": 1}, book_by, FRAME, [LEFT, ("kept", COVER, (6, 6)), one, LEFT, other])
        paper = [one, other, ("kept", ("c", "x", 0, 1, 0), (0,))]
        check_found(self, NoPaper, paper, book_by, FRAME, paper)

    def test_what_is_handed_in_is_kept_as_a_copy(self):
        paper = [KEPT]
        book = book_by(FRAME, paper)
        paper[0] = LEFT
        self.assertEqual(book.parts(), [PIECE])
