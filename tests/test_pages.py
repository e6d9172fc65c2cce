"""Points 92 to 95: pages, of findings and of roots."""

import random
import unittest

from leastlore.errors import NoNumber, NoPage, NoPart
from leastlore.findings import is_finding
from leastlore.frames import Frame
from leastlore.pages import blank_page, is_page, page_of, part_on, root_on, root_page
from tests.pagemaking import (
    BLANK, MOST, changed_at, finding_by_hand, no_pages, page_by_hand, root_by_hand, with_check, with_strange,
)
from tests.test_checks import NOT_SMALL
from tests.test_findings import NO_FINDINGS
from tests.things import GREAT, SIXTY, check_found, copied, strange_things

FRAME = Frame(["b", "a"], 5, 4)
VALUES = ["a", "z", "0", "9", "abcd", "9999", "abcde", "zzzz0", "abcdefgh", "00000000", "abcdefghi", "abcdefghijkl",
          "999999999999", "000000000000", "days"]


def some_numbers(chance):
    return [0, 1, 2, 3, 4, 5, 37, 1369, 50653, 37 ** 4 - 1, 37 ** 4, MOST, chance.randrange(37 ** 4),
            chance.randrange(2 ** 32)]


class Pages(unittest.TestCase):

    def test_is_page(self):
        for page in (BLANK, (MOST,) * 20, tuple(range(20)), root_by_hand(1, [2]), changed_at(BLANK, 19, MOST)):
            self.assertIs(is_page(page), True)
        self.assertIs(is_page(thing=BLANK), True)
        for thing in no_pages():
            self.assertIs(is_page(thing), False, thing)

    def test_one_number_of_a_page(self):
        for at in range(20):
            for number in NOT_SMALL:
                self.assertIs(is_page(changed_at(BLANK, at, number)), False)
            for number in (1, 2 ** 31, MOST):
                self.assertIs(is_page(changed_at(BLANK, at, number)), True)

    def test_the_blank_page(self):
        self.assertEqual(blank_page(), BLANK)
        self.assertIs(type(blank_page()), tuple)
        self.assertIsNone(part_on(FRAME, BLANK))
        self.assertIsNone(root_on(BLANK, 4))


class OfFindings(unittest.TestCase):

    def check(self, frame, finding):
        page = page_of(frame, finding)
        self.assertEqual(page, page_by_hand(frame, finding))
        self.assertIs(is_page(page), True)
        self.assertEqual(part_on(frame, page), finding)
        self.assertIs(type(part_on(frame, page)), tuple)
        return page

    def test_number_by_number(self):
        chance = random.Random(93)
        seen = {}
        for _ in range(300):
            frame = chance.choice([FRAME, GREAT, Frame(["c"], 1, 1)])
            begin, end = sorted(chance.sample(range(frame.days + 1), 2))
            value = "".join(chance.choice("abcxyz0189") for _ in range(chance.randrange(1, 13)))
            finding = (chance.choice(frame.key_names()), value, begin, end, chance.randrange(frame.turns))
            page = self.check(frame, finding)
            self.assertEqual(seen.setdefault((frame.told(), page), finding), finding)

    def test_values_of_one_sign_to_twelve(self):
        pages = [self.check(FRAME, ("b", value, 0, 5, 3)) for value in VALUES]
        self.assertEqual(len(set(pages)), len(VALUES))
        self.assertEqual(page_of(FRAME, ("a", "a", 0, 1, 0))[:9], (1, 2, 0, 1, 0, 50653, 0, 0, 0))
        self.assertEqual(page_of(FRAME, ("b", "az09", 2, 5, 3))[:9],
                         (0, 2, 2, 5, 3, 1 * 50653 + 26 * 1369 + 27 * 37 + 36, 0, 0, 0))
        self.assertEqual(page_of(FRAME, ("b", "9999b", 2, 5, 3))[5:8], (37 ** 4 - 1, 2 * 50653, 0))
        self.assertEqual(page_of(FRAME, ("b", "9999aaaaa", 2, 5, 3))[7], 50653)
        self.assertEqual(page_of(FRAME, ("b", "x", 2, 5, 3))[8:19], (0,) * 11)

    def test_the_first_and_the_last_key_day_and_turn(self):
        for finding in (("ka", "x", 0, 1, 0), ("kl", "x", 399, 400, 399), ("kl", "x", 0, 400, 0)):
            self.check(GREAT, finding)
        self.assertEqual(page_of(frame=GREAT, finding=("kl", "x", 399, 400, 399))[:5], (11, 2, 399, 400, 399))
        self.check(Frame(["c"], 1, 1), ("c", "x", 0, 1, 0))

    def test_pages_with_one_number_changed(self):
        chance = random.Random(931)
        for frame, finding in ((FRAME, ("a", "xy", 1, 4, 2)), (FRAME, ("b", "abcdefghijkl", 0, 5, 3)),
                               (GREAT, ("kl", "99999", 0, 400, 0))):
            page = page_of(frame, finding)
            others = 0
            for at in range(20):
                for number in some_numbers(chance) + [page[at] + 1, page[at] ^ 1, page[at] ^ 2 ** 31]:
                    thing = changed_at(page, at, number)
                    if number == page[at] or number > MOST:
                        continue
                    self.assertIsNone(part_on(frame, thing))
                    if at < 19:
                        right = with_check(thing[:19])
                        self.assertEqual(part_on(frame, right), finding_by_hand(frame, right))
                        others += part_on(frame, right) is not None
            self.assertGreater(others, 3)

    def test_noughted_places_amid_the_signs_and_numbers_too_great(self):
        def with_value(*numbers):
            return with_check((1, 2, 0, 1, 0, *numbers) + (0,) * 11)
        a, b, c, d = 50653, 1369, 37, 1
        self.assertEqual(part_on(FRAME, with_value(a + b, 0, 0)), ("a", "aa", 0, 1, 0))
        for numbers in ((0, 0, 0), (a + c, 0, 0), (a + d, 0, 0), (b, 0, 0), (d, 0, 0), (0, a, 0), (a, a, 0),
                        (a + b + c + d, 0, a), (a + b + c + d, a + b + c, a), (0, 0, a), (37 ** 4, 0, 0),
                        (37 ** 4 + a, 0, 0), (MOST, 0, 0), (a + b + c + d, 37 ** 4 + a, 0), (37 ** 4 * 2 + a, 0, 0)):
            self.assertIsNone(part_on(FRAME, with_value(*numbers)), numbers)
        self.assertEqual(part_on(FRAME, with_value(37 ** 4 - 1, 37 ** 4 - 1, 37 ** 4 - 1)), ("a", "9" * 12, 0, 1, 0))

    def test_pages_of_another_frame(self):
        page = page_of(GREAT, ("kc", "x", 0, 1, 0))
        self.assertIsNone(part_on(FRAME, page))
        self.assertEqual(part_on(frame=FRAME, thing=page_of(GREAT, ("kb", "x", 0, 5, 3))), ("a", "x", 0, 5, 3))
        for finding in (("kb", "x", 0, 6, 0), ("kb", "x", 5, 6, 0), ("kb", "x", 0, 1, 4)):
            self.assertIsNone(part_on(FRAME, page_of(GREAT, finding)))
        for begin, end in ((1, 1), (2, 1), (0, 0), (MOST, 1)):
            self.assertIsNone(part_on(FRAME, with_check((1, 2, begin, end, 0, 50653) + (0,) * 13)))

    def test_any_thing(self):
        page = page_of(FRAME, ("a", "x", 0, 1, 0))
        wrong = [list(page), page[:19], page + (0,), changed_at(page, 2, False), changed_at(page, 3, True),
                 changed_at(page, 0, True), root_by_hand(1, []), root_by_hand(2, [2]), ("a", "x", 0, 1, 0)]
        for thing in wrong + no_pages():
            self.assertIsNone(part_on(FRAME, thing), thing)
        for thing in NO_FINDINGS + strange_things() + [page]:
            check_found(self, NoPart, thing, page_of, FRAME, thing)


class Roots(unittest.TestCase):

    def test_number_by_number(self):
        chance = random.Random(94)
        for _ in range(200):
            many = chance.randrange(4, 513)
            used = [number for number in range(2, many) if chance.randrange(4) == 0]
            count = chance.choice([1, 2, MOST, chance.randrange(1, 2 ** 32)])
            mixed = list(used)
            chance.shuffle(mixed)
            before = copied(mixed)
            page = root_page(count, mixed)
            self.assertEqual(mixed, before)
            self.assertEqual(page, root_by_hand(count, used))
            self.assertEqual(root_page(count, tuple(mixed)), page)
            self.assertIs(is_page(page), True)
            self.assertEqual(root_on(page, many), (count, used))
            self.assertIsNone(part_on(GREAT, page))

    def test_edges(self):
        self.assertEqual(root_page(count=1, used=[]), root_by_hand(1, []))
        self.assertEqual(root_page(MOST, (511, 2))[:4], (MOST, 1, 4, 0))
        self.assertEqual(root_page(MOST, (511, 2))[16:18], (0, 2 ** 31))
        self.assertEqual(root_page(7, [31, 32, 33, 64])[2:5], (2 ** 31, 3, 1))
        whole = list(range(2, 512))
        page = root_page(1, whole)
        self.assertEqual(page[2:18], (MOST - 3,) + (MOST,) * 15)
        told = root_on(thing=page, many=512)
        self.assertEqual(told, (1, whole))
        self.assertEqual((type(told), type(told[1])), (tuple, list))
        told[1].clear()
        self.assertEqual(root_on(page, 512), (1, whole))
        for used in ([], [2], [3], [2, 3]):
            self.assertEqual(root_on(root_page(MOST, used), 4), (MOST, used))

    def test_for_a_smaller_disk(self):
        for number in (2, 3, 4, 31, 32, 33, 63, 64, 255, 510, 511):
            for many in range(4, 513):
                told = root_on(root_page(9, [number]), many)
                self.assertEqual(told, (9, [number]) if number < many else None)
        self.assertIsNone(root_on(root_page(1, list(range(2, 512))), 511))

    def test_refused(self):
        for count in with_strange([0, -1, True, False, 2 ** 32, SIXTY, -SIXTY]):
            check_found(self, NoNumber, count, root_page, count, [2])
            check_found(self, NoNumber, count, root_page, count, None)
        for used in with_strange([0, 2, "", {2: 3}]):
            if not isinstance(used, (list, tuple)):
                check_found(self, NoPage, used, root_page, 1, used)
        for number in with_strange([0, 1, 512, True, False, -1, 513, SIXTY, "2"]):
            check_found(self, NoPage, number, root_page, 1, [number])
            check_found(self, NoPage, number, root_page, MOST, (2, 511, number, None, 2))
        error_of = [5, 3, int("300"), int("300"), 0, 5]
        check_found(self, NoPage, error_of[3], root_page, 1, error_of)
        check_found(self, NoPage, 2, root_page, 1, [2, 3, 2, 1])
        check_found(self, NoPage, 511, root_page, 1, (511, 511))
        self.assertEqual(root_page(1, [2, 3]), root_by_hand(1, [2, 3]))

    def test_one_number_changed(self):
        chance = random.Random(95)
        for count, used, many in ((1, [2], 4), (MOST, list(range(2, 512)), 512), (6, [40, 7, 300], 301), (5, [], 4)):
            page = root_page(count, used)
            for at in range(20):
                for number in some_numbers(chance) + [page[at] ^ 1, page[at] ^ 2, page[at] ^ 4, page[at] ^ 2 ** 31]:
                    if number == page[at]:
                        continue
                    thing = changed_at(page, at, number)
                    self.assertIsNone(root_on(thing, many))
                    right = (*with_check(thing[:18]), thing[19])
                    bits = {32 * (place - 2) + bit for place in range(2, 18) for bit in range(32)
                            if thing[place] >> bit & 1}
                    good = at in range(2, 18) and all(2 <= bit < many for bit in bits)
                    # A changed check is just made right again.
                    expected = (count, sorted(bits)) if good or at == 18 else None
                    self.assertEqual(root_on(right, many), expected)

    def test_both_counts_changed_alike(self):
        page = root_page(5, [2, 3])
        self.assertIsNone(root_on((6, *page[1:19], 6), 4))
        self.assertEqual(root_on((*with_check((6, *page[1:18])), 6), 4), (6, [2, 3]))
        self.assertIsNone(root_on((*with_check((0, *page[1:18])), 0), 4))
        for kind in (0, 2, 3, MOST):
            self.assertIsNone(root_on((*with_check((5, kind, *page[2:18])), 5), 4))
        for low in (1, 2, 3):
            self.assertIsNone(root_on((*with_check((5, 1, page[2] + low, *page[3:18])), 5), 4))

    def test_broken_off_behind_each_number(self):
        for used in ([], [2], [2, 3], list(range(2, 512))):
            for count in (1, 2, 3, MOST):
                page = root_page(count, used)
                for old in (BLANK, root_page(count % 7 + 4, [2, 3]), root_page(count % 7 + 4, used)):
                    for at in range(21):
                        expected = (count, used) if at == 20 else root_on(old, 512) if at == 0 else None
                        self.assertEqual(root_on(page[:at] + old[at:], 512), expected, (used, count, at))

    def test_any_thing(self):
        page = root_page(1, [2])
        for thing in no_pages() + [list(page), page[:19], page + (1,), changed_at(page, 0, True), BLANK,
                                   changed_at(page, 1, True), changed_at(page, 19, True),
                                   page_of(FRAME, ("a", "x", 0, 1, 0))]:
            self.assertIsNone(root_on(thing, 512), thing)

    def test_findings_and_roots_never_the_same(self):
        self.assertTrue(is_finding(FRAME, ("a", "x", 0, 1, 0)))
        self.assertNotEqual(page_of(FRAME, ("a", "x", 0, 1, 0)), root_page(1, []))
