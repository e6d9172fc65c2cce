"""Who speaks at the points of boxes, on which days a part is needed there, and ladders."""

from leastlore.boxsets import alike_runs, boxes_in_row, tidy_table
from leastlore.errors import NoNumber
from leastlore.masks import first_in, mask_between
from leastlore.stairs import check_part, turns_of_part
from leastlore.words import is_within


def spoken_turns(book, table):
    """For each part, in order, a tuple of it and of the masks, for each of its days, of the turns at which it speaks.

    Only such turns count as the table has on that day.
    """
    return [told for key in table for told in spoken_in_row(book, key, table[key])]


def spoken_in_row(book, key, row):
    """The same of the parts of one key."""
    told = []
    ends = [book.frame.turns] * book.frame.days
    # The parts of a key rise by known turns: from behind, it is seen where each one's stair ends.
    for part in reversed(book.parts_of(key)):
        begin, end, known = part[2:]
        told.append((part, [row[day] & mask_between(known, ends[day]) for day in range(begin, end)]))
        ends[begin:end] = [known] * (end - begin)
    return told[::-1]


def who_speaks(book, boxes):
    """The parts that speak at points of the boxes, each with the tidy boxes of these."""
    spoken = spoken_turns(book, tidy_table(book.frame, boxes))
    told = [(part, boxes_in_row(part[0], masks, part[2])) for part, masks in spoken]
    return [(part, held) for part, held in told if held]


def turns_by_boxes(book, part, boxes):
    """For each day of a part the mask of the boxes' turns at which it speaks."""
    check_part(book, part)
    row = tidy_table(book.frame, boxes)[part[0]]
    return [row[part[2] + at] & turns for at, turns in enumerate(turns_of_part(book, part))]


def pieces_by(part, masks):
    """The pieces of a part, all needed or all quiet, by the masks of its days, each piece with its own of them."""
    key, value, first, _, known = part
    runs = alike_runs([mask != 0 for mask in masks])
    return [((key, value, first + begin, first + end, known), masks[begin:end]) for begin, end in runs]


def needed_days(book, part, boxes):
    """The tidy row of the days on which a part is needed."""
    pieces = pieces_by(part, turns_by_boxes(book, part, boxes))
    return [(piece[2], piece[3]) for piece, masks in pieces if masks[0]]


def quiet_days(book, part, boxes):
    """The tidy row of the days of a part on which it isn't needed."""
    pieces = pieces_by(part, turns_by_boxes(book, part, boxes))
    return [(piece[2], piece[3]) for piece, masks in pieces if not masks[0]]


def first_turns(book, part, boxes):
    """For each day on which a part is needed the first of the boxes' turns at which it speaks."""
    masks = turns_by_boxes(book, part, boxes)
    return [(part[2] + at, first_in(mask)) for at, mask in enumerate(masks) if mask]


def ladder(book, key, day):
    """The longest runs of turns at which the book reads the same of a key and a day."""
    parts = book.parts_of(key)
    if not is_within(day, 0, book.frame.days - 1):
        raise NoNumber(day)
    rungs = [(part[4], (part[1], part[4])) for part in parts if part[2] <= day < part[3]]
    if not rungs or rungs[0][0] > 0:
        rungs.insert(0, (0, None))
    ends = [turn for turn, reading in rungs[1:]] + [book.frame.turns]
    return [(turn, end, reading) for (turn, reading), end in zip(rungs, ends)]
