"""Where a part speaks, what speaks behind it, and where a book is silent."""

from leastlore.boxsets import alike_runs, boxes_by, boxes_in_row
from leastlore.errors import NoPart
from leastlore.masks import mask_between
from leastlore.words import is_same


def check_part(book, part):
    """Refuses what is none of the book's parts."""
    if not book.has_part(part):
        raise NoPart(part)


def later_by_day(book, part):
    """For each day of a part the one of the least greater known turn that has it, or None."""
    begin, end, known = part[2:]
    later = [None] * (end - begin)
    # The parts of a key rise by known turns: from behind, the least greater one comes last.
    for other in reversed(book.parts_of(part[0])):
        if other[4] <= known:
            break
        for day in range(max(begin, other[2]), min(end, other[3])):
            later[day - begin] = other
    return later


def turns_of_part(book, part):
    """For each day of a part the mask of the turns at which it speaks."""
    behind = [book.frame.turns if other is None else other[4] for other in later_by_day(book, part)]
    return [mask_between(part[4], end) for end in behind]


def stair_of(book, part):
    """The tidy boxes of the points at which a part speaks."""
    check_part(book, part)
    return boxes_in_row(part[0], turns_of_part(book, part), part[2])


def is_stair(book, part, thing):
    """Whether a thing is the stair of a part."""
    return is_same(thing, stair_of(book, part))


def next_parts(book, part):
    """By stretches of a part's days the part that speaks next, or None."""
    check_part(book, part)
    later = later_by_day(book, part)
    return [(part[2] + begin, part[2] + end, later[begin]) for begin, end in alike_runs(later)]


def is_next(book, part, thing):
    """Whether a thing tells which parts speak next behind a part."""
    return is_same(thing, next_parts(book, part))


def silent_boxes(book):
    """The tidy boxes of the points at which no atom speaks."""
    return boxes_by({key: silent_turns(book, key) for key in book.frame.key_names()})


def silent_turns(book, key):
    """For each day the mask of the turns at which no atom of a key speaks."""
    ends = [book.frame.turns] * book.frame.days
    for part in book.parts_of(key):
        for day in range(part[2], part[3]):
            ends[day] = min(ends[day], part[4])
    return [mask_between(0, end) for end in ends]
