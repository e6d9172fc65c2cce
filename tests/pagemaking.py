"""What the tests of pages, disks and stores need: pages laid number by number, and things that are none."""

import functools

from leastlore.errors import NoKey
from leastlore.frames import Frame
from tests.test_checks import check_by_hand
from tests.things import strange_things

BLANK = (0,) * 20
MOST = 2 ** 32 - 1
SIGNS = "abcdefghijklmnopqrstuvwxyz0123456789"


@functools.lru_cache(None)
def check_once(numbers):
    """The check by hand, which takes its time, reckoned once for each row of numbers."""
    return check_by_hand(numbers)


def with_check(numbers):
    """The page of nineteen numbers, with their check behind them."""
    return (*numbers, check_once(tuple(numbers)))


def page_by_hand(frame, finding):
    """The page of a finding by the words of point 93, number by number."""
    key, value, begin, end, known = finding
    numbers = [0] * 19
    numbers[0] = frame.key_names().index(key)
    numbers[1], numbers[2], numbers[3], numbers[4] = 2, begin, end, known
    for at, sign in enumerate(value):
        numbers[5 + at // 4] += (SIGNS.index(sign) + 1) * 37 ** (3 - at % 4)
    return with_check(numbers)


def root_by_hand(count, used):
    """The page of a root by the words of point 94, number by number."""
    numbers = [0] * 18
    numbers[0], numbers[1] = count, 1
    for number in used:
        numbers[2 + number // 32] += 2 ** (number % 32)
    return (*with_check(numbers), count)


def finding_by_hand(frame, page):
    """The finding whose page this is, by reading it place by place; None, where there is none."""
    keys = frame.key_names()
    if page[1] != 2 or page[0] >= len(keys) or any(page[8:19]) or page[19] != check_once(page[:19]):
        return None
    if not 0 <= page[2] < page[3] <= frame.days or not 0 <= page[4] < frame.turns:
        return None
    signs = ""
    for number in page[5:8]:
        if number >= 37 ** 4:
            return None
        for place in (3, 2, 1, 0):
            signs += ("_" + SIGNS)[number // 37 ** place % 37]
    value = signs.rstrip("_")
    if not value or "_" in value:
        return None
    return (keys[page[0]], value, page[2], page[3], page[4])


def changed_at(page, at, number):
    return page[:at] + (number,) + page[at + 1:]


def no_pages():
    """Any things that are no pages."""
    page = (7,) * 20
    wrong = [list(page), page[:19], page + (7,), [], (), (page,), [page] * 20, (page,) * 20, "0" * 20, NoKey, page * 2]
    for at in (0, 1, 7, 18, 19):
        wrong += [changed_at(page, at, number) for number in (True, False, -1, 2 ** 32, None, "7", [7], (7,))]
    return wrong + strange_things()


def with_strange(things):
    """The things, and strange ones that are no whole numbers."""
    return things + [thing for thing in strange_things() if type(thing) is not int] + [Frame(["a"], 1, 1)]
