"""Points 96 to 98: power, and disks."""

import random
import unittest

from leastlore.disks import Disk, Power, disk_of
from leastlore.errors import Dark, NoDisk, NoNumber, NoPage
from leastlore.pages import page_of, root_page
from tests.pagemaking import BLANK, changed_at, no_pages, with_strange
from tests.test_pages import FRAME
from tests.things import SIXTY, check_fields, check_found, check_new_each_time, refusal

PAGE = tuple(range(1, 21))
OTHER = tuple(range(101, 121))


class Powers(unittest.TestCase):

    def test_power_that_never_goes(self):
        for power in (Power(), Power(None), Power(many=None)):
            self.assertIsNone(power.left_over())
            self.assertEqual(power.written(), 0)
            disk = Disk(4)
            for at in range(1, 8):
                disk.write(at % 4, PAGE, power)
                self.assertIsNone(power.left_over())
                self.assertEqual(power.written(), 20 * at)

    def test_so_many_numbers(self):
        for many in (0, 1, 19, 20, 21, 999999999, int("9" * 30)):
            power = Power(many=many)
            self.assertEqual((power.left_over(), power.written()), (many, 0))

    def test_refused(self):
        for thing in with_strange([True, False, -1, -SIXTY, "0", [], [3], (3,), {}]):
            if thing is not None:
                check_found(self, NoNumber, thing, Power, thing)


class Disks(unittest.TestCase):

    def test_blank_at_first(self):
        for many in (4, 5, 511, 512):
            disk = Disk(many=many)
            self.assertEqual(disk.how_many(), many)
            self.assertEqual(disk.pages(), [BLANK] * many)
            self.assertEqual(disk.page_at(0), BLANK)
            self.assertEqual(disk.page_at(number=many - 1), BLANK)
            for number in (many, many + 1, -1):
                check_found(self, NoPage, number, disk.page_at, number)

    def test_refused(self):
        for thing in with_strange([3, 513, 0, -4, True, False, None, SIXTY, "4", [4], (4,), [BLANK] * 4]):
            check_found(self, NoDisk, thing, Disk, thing)
        disk = Disk(4)
        for thing in with_strange([-1, 4, True, False, SIXTY, -SIXTY, "0", None]):
            check_found(self, NoPage, thing, disk.page_at, thing)

    def test_of_told_pages(self):
        for many in (4, 5, 512):
            pages = [tuple(range(at, at + 20)) for at in range(many)]
            for told in (pages, tuple(pages)):
                disk = disk_of(pages=told)
                self.assertIs(type(disk), Disk)
                self.assertEqual(disk.pages(), pages)
                self.assertEqual(disk.how_many(), many)
                self.assertEqual(disk.page_at(3), pages[3])
            self.assertEqual(disk_of(disk.pages()).pages(), pages)

    def test_told_pages_refused(self):
        for thing in with_strange([[PAGE] * 3, (PAGE,) * 3, [PAGE] * 513, [], (), 4, {0: PAGE}, "pages"]):
            check_found(self, NoDisk, thing, disk_of, thing)
        for thing in no_pages():
            for pages in ([thing, PAGE, PAGE, PAGE], (PAGE, PAGE, PAGE, thing), [PAGE] * 511 + [thing]):
                check_found(self, NoDisk, pages, disk_of, pages)

    def test_no_list_is_kept_and_each_told_is_new(self):
        pages = [PAGE] * 5
        disk = disk_of(pages)
        pages[0] = BLANK
        pages.clear()
        self.assertEqual(disk.pages(), [PAGE] * 5)
        self.assertEqual(check_new_each_time(self, disk.pages), [PAGE] * 5)
        told = disk.pages()
        told[0] = BLANK
        self.assertEqual(disk.page_at(0), PAGE)
        again = disk_of(disk.pages())
        again.write(0, OTHER)
        self.assertEqual((disk.page_at(0), again.page_at(0)), (PAGE, OTHER))

    def test_two_disks_have_nothing_in_common(self):
        one, other = Disk(4), Disk(4)
        one.write(2, PAGE)
        self.assertEqual(other.pages(), [BLANK] * 4)
        self.assertEqual(one.pages(), [BLANK, BLANK, PAGE, BLANK])


class Writing(unittest.TestCase):

    def test_each_power_over_a_page_and_over_the_blank_one(self):
        for old in (BLANK, PAGE, OTHER, changed_at(PAGE, 7, 0)):
            for many in range(23):
                disk = disk_of([old] * 4)
                power = Power(many)
                if many < 20:
                    check_fields(self, Dark, {"many": many}, disk.write, 1, PAGE, power)
                else:
                    self.assertIsNone(disk.write(1, PAGE, power))
                self.assertEqual(disk.pages(), [old, PAGE[:many] + old[many:], old, old])
                self.assertEqual(power.left_over(), max(0, many - 20))
                self.assertEqual(power.written(), min(20, many))

    def test_power_that_never_goes_and_none_handed_in(self):
        disk = Disk(5)
        self.assertIsNone(disk.write(number=0, numbers=PAGE, power=None))
        disk.write(4, OTHER)
        disk.write(number=2, numbers=PAGE, power=Power())
        self.assertEqual(disk.pages(), [PAGE, BLANK, PAGE, BLANK, OTHER])

    def test_numbers_that_were_there_already_are_written_too(self):
        disk, power = disk_of([PAGE] * 4), Power(45)
        disk.write(0, PAGE, power)
        disk.write(0, PAGE, power)
        self.assertEqual((power.left_over(), power.written()), (5, 40))
        check_fields(self, Dark, {"many": 45}, disk.write, 0, PAGE, power)
        self.assertEqual((power.left_over(), power.written()), (0, 45))
        check_fields(self, Dark, {"many": 45}, disk.write, 1, OTHER, power)
        self.assertEqual((power.left_over(), power.written()), (0, 45))
        self.assertEqual(disk.pages(), [PAGE] * 4)

    def test_one_power_for_pages_of_two_disks(self):
        for many in range(0, 100, 7):
            power, disks = Power(many), [disk_of([BLANK] * 4), disk_of((PAGE,) * 6)]
            left, dark = many, False
            for at, page in ((0, OTHER), (1, OTHER), (0, PAGE), (1, BLANK)):
                before = disks[at].pages()
                fits = min(20, left)
                if fits < 20:
                    check_fields(self, Dark, {"many": many}, disks[at].write, at + 2, page, power)
                else:
                    disks[at].write(at + 2, page, power)
                left -= fits
                expected = list(before)
                expected[at + 2] = page[:fits] + before[at + 2][fits:]
                self.assertEqual(disks[at].pages(), expected)
                self.assertEqual((power.left_over(), power.written()), (left, many - left))
                dark = dark or fits < 20
            self.assertIs(dark, many < 80)

    def test_by_chance(self):
        chance = random.Random(98)
        for _ in range(60):
            many = chance.randrange(4, 9)
            disk, held = Disk(many), [BLANK] * many
            power = chance.choice([Power(), Power(chance.randrange(200))])
            for _ in range(8):
                number, page = chance.randrange(many), tuple(chance.randrange(2 ** 32) for _ in range(20))
                fits = 20 if power.left_over() is None else min(20, power.left_over())
                try:
                    disk.write(number, page, power)
                    self.assertEqual(fits, 20)
                except Dark as error:
                    self.assertLess(fits, 20)
                    self.assertEqual(error.many, power.written())
                held[number] = page[:fits] + held[number][fits:]
                self.assertEqual(disk.pages(), held)

    def test_refused(self):
        disk, power = Disk(4), Power(3)
        for thing in with_strange([-1, 4, True, False, SIXTY, "0", None]):
            check_found(self, NoPage, thing, disk.write, thing, PAGE, power)
            check_found(self, NoPage, thing, disk.write, thing, None)
        for thing in no_pages():
            check_found(self, NoPage, thing, disk.write, 0, thing, power)
            check_found(self, NoPage, thing, disk.write, 3, thing)
        self.assertEqual((power.left_over(), power.written()), (3, 0))
        self.assertEqual(disk.pages(), [BLANK] * 4)
        dark = Power(0)
        check_found(self, NoPage, 4, disk.write, 4, None, dark)
        refusal(self, Dark, disk.write, 0, PAGE, dark)

    def test_pages_of_findings_and_roots(self):
        disk = Disk(4)
        disk.write(2, page_of(FRAME, ("a", "x", 0, 5, 3)))
        disk.write(1, root_page(1, [2]))
        self.assertEqual(disk.pages(), [BLANK, root_page(1, [2]), page_of(FRAME, ("a", "x", 0, 5, 3)), BLANK])
