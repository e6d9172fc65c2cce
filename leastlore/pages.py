"""Pages of twenty numbers: of findings, of roots, and the blank one."""

from leastlore.checks import MOST_NUMBER, check_of, is_small
from leastlore.errors import NoNumber, NoPage, NoPart
from leastlore.findings import is_finding
from leastlore.words import MOST_IN_VALUE, is_within

PAGE_SIZE = 20
MOST_PAGES = 512
# The pages ahead of this one are the places of roots.
FIRST_USED = 2

KIND_OF_ROOT = 1
KIND_OF_PART = 2

# A sign's place here is what it counts; the blank stands for no sign any more.
SIGNS = " abcdefghijklmnopqrstuvwxyz0123456789"
WORTHS = (50653, 1369, 37, 1)

# A root tells which pages are used by so many numbers of so many figures each.
NUMBERS_OF_USED = 16
FIGURES_OF_USED = 32


def is_page(thing):
    """Whether a thing is a page."""
    return isinstance(thing, tuple) and len(thing) == PAGE_SIZE and all(is_small(number) for number in thing)


def blank_page():
    """The page of twenty noughts."""
    return (0,) * PAGE_SIZE


def numbers_of(value):
    """The three numbers for a value."""
    counts = [SIGNS.index(sign) for sign in value.ljust(MOST_IN_VALUE)]
    fours = [counts[at:at + len(WORTHS)] for at in range(0, MOST_IN_VALUE, len(WORTHS))]
    return [sum([count * worth for count, worth in zip(four, WORTHS)]) for four in fours]


def value_by(numbers):
    """The signs for which three numbers are, be they a value's or not."""
    signs = [SIGNS[number // worth % len(SIGNS)] for number in numbers for worth in WORTHS]
    return "".join(signs).rstrip(" ")


def page_of(frame, finding):
    """The page of a finding of the frame."""
    if not is_finding(frame, finding):
        raise NoPart(finding)
    key, value, begin, end, known = finding
    told = [frame.place_of(key), KIND_OF_PART, begin, end, known] + numbers_of(value)
    numbers = told + [0] * (PAGE_SIZE - 1 - len(told))
    return tuple(numbers + [check_of(numbers)])


def part_on(frame, thing):
    """The finding of the frame whose page a thing is, or None."""
    keys = frame.key_names()
    if not is_page(thing) or thing[1] != KIND_OF_PART or thing[0] >= len(keys):
        return None
    begin, end, known = thing[2:5]
    part = (keys[thing[0]], value_by(thing[5:8]), begin, end, known)
    # What else stands on the page is right just where the finding's own page is the same.
    return part if is_finding(frame, part) and page_of(frame, part) == thing else None


def root_page(count, used):
    """The page of a root of a count and of used pages."""
    if not is_within(count, 1, MOST_NUMBER):
        raise NoNumber(count)
    if not isinstance(used, (list, tuple)):
        raise NoPage(used)
    mask = 0
    for number in used:
        if not is_within(number, FIRST_USED, MOST_PAGES - 1) or mask >> number & 1:
            raise NoPage(number)
        mask |= 1 << number
    return root_by(count, mask)


def root_by(count, mask):
    """The page of a root of a count and of the mask of the used pages."""
    used = [mask >> at * FIGURES_OF_USED & MOST_NUMBER for at in range(NUMBERS_OF_USED)]
    numbers = [count, KIND_OF_ROOT] + used
    return tuple(numbers + [check_of(numbers), count])


def root_on(thing, many):
    """The count and the used pages of the root of a disk of so many pages whose page a thing is, or None."""
    if not is_page(thing) or thing[0] == 0:
        return None
    count = thing[0]
    mask = sum([number << at * FIGURES_OF_USED for at, number in enumerate(thing[2:2 + NUMBERS_OF_USED])])
    # The kind, the check and the count at the end are right just where the page made anew is the same.
    if root_by(count, mask) != thing:
        return None
    used = [number for number in range(MOST_PAGES) if mask >> number & 1]
    return (count, used) if all(FIRST_USED <= number < many for number in used) else None
