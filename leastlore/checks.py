"""The check of a row of numbers, by which it is seen whether one of them was changed."""

from leastlore.errors import NoNumber
from leastlore.words import is_within

MOST_NUMBER = 4294967295
BEYOND = 4294967296

START = 2166136261
TIMES = 2654435769
MORE = 40503
HALFWAY = 15


def is_small(thing):
    """Whether a thing is a whole number below 2 ** 32, and none below 0."""
    return is_within(thing, 0, MOST_NUMBER)


def check_of(numbers):
    """The check of numbers."""
    if not isinstance(numbers, (list, tuple)):
        raise NoNumber(numbers)
    check = START
    for number in numbers:
        if not is_small(number):
            raise NoNumber(number)
        check = ((check ^ number) * TIMES + MORE) % BEYOND
        check ^= check >> HALFWAY
    return check
