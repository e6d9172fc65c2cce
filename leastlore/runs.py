"""Stretches, and the tidy rows of them that tell sets of numbers from 0 to 399."""

from leastlore.errors import NoNumber, NoStretch
from leastlore.masks import mask_of, runs_in
from leastlore.words import is_whole, is_within

MOST_END = 400


def is_span(begin, end, most):
    """Whether two things begin and end a stretch of the numbers below the most."""
    return is_within(begin, 0, most) and is_within(end, begin + 1, most)


def is_stretch(thing):
    """Whether a thing is a stretch."""
    return isinstance(thing, tuple) and len(thing) == 2 and is_span(thing[0], thing[1], MOST_END)


def is_runs(thing):
    """Whether a thing is a tidy row."""
    if not isinstance(thing, list) or not all(is_stretch(stretch) for stretch in thing):
        return False
    return runs_in(mask_of(thing)) == thing


def runs_of(stretches):
    """The tidy row of the numbers that some of the stretches has."""
    if not isinstance(stretches, (list, tuple)):
        raise NoStretch(stretches)
    for stretch in stretches:
        if not is_stretch(stretch):
            raise NoStretch(stretch)
    return runs_in(mask_of(stretches))


def runs_by(numbers):
    """The tidy row of these numbers."""
    if not isinstance(numbers, (list, tuple)):
        raise NoNumber(numbers)
    mask = 0
    for number in numbers:
        if not is_within(number, 0, MOST_END - 1):
            raise NoNumber(number)
        mask |= 1 << number
    return runs_in(mask)


def mask_of_tidy(runs):
    """The mask of a tidy row; what is none is refused."""
    if not is_runs(runs):
        raise NoStretch(runs)
    return mask_of(runs)


def joined_runs(one, other):
    """The tidy row of the numbers that one of both has."""
    mine = mask_of_tidy(one)
    theirs = mask_of_tidy(other)
    return runs_in(mine | theirs)


def common_runs(one, other):
    """The tidy row of the numbers that both have."""
    mine = mask_of_tidy(one)
    theirs = mask_of_tidy(other)
    return runs_in(mine & theirs)


def less_runs(one, other):
    """The tidy row of the numbers that the first has and the second hasn't."""
    mine = mask_of_tidy(one)
    theirs = mask_of_tidy(other)
    return runs_in(mine & ~theirs)


def how_many(runs):
    """How many numbers a tidy row has."""
    return len(numbers_in(runs))


def numbers_in(runs):
    """The numbers of a tidy row, rising."""
    if not is_runs(runs):
        raise NoStretch(runs)
    return [number for begin, end in runs for number in range(begin, end)]


def has_number(runs, thing):
    """Whether a thing is a number of the tidy row."""
    numbers = numbers_in(runs)
    return is_whole(thing) and thing in numbers
