"""Sets of points of a frame, told as tidy boxes.

Such a set is also held as one mask. Its numbers are those of the points, counted by the place of the key in the
frame, then by the day, then by the turn.
"""

from leastlore.boxes import is_box
from leastlore.errors import NoBoxes
from leastlore.masks import first_in, mask_between, repeated, runs_in


def turns_by_day(frame, boxes):
    """For each key a list with the mask, for each day, of the turns that some box has."""
    turns_of = {}
    for key, day, day_end, turn, turn_end in boxes:
        days = (key, day, day_end)
        turns_of[days] = turns_of.get(days, 0) | mask_between(turn, turn_end)
    table = {key: [0] * frame.days for key in frame.key_names()}
    for (key, day, day_end), turns in turns_of.items():
        row = table[key]
        for at in range(day, day_end):
            row[at] |= turns
    return table


def alike_runs(things):
    """The longest runs of places, side by side, at which a list has equal things, as stretches."""
    runs = []
    begin = 0
    for end in range(1, len(things) + 1):
        if end == len(things) or things[end] != things[begin]:
            runs.append((begin, end))
            begin = end
    return runs


def boxes_by(table):
    """The tidy boxes of the points of such a table."""
    return [box for key in table for box in boxes_in_row(key, table[key], 0)]


def boxes_in_row(key, masks, first):
    """The tidy boxes of the points of one key, on days side by side from the first one on."""
    boxes = []
    for day, day_end in alike_runs(masks):
        for turn, turn_end in runs_in(masks[day]):
            boxes.append((key, first + day, first + day_end, turn, turn_end))
    return boxes


def boxes_of(frame, boxes):
    """The tidy boxes of all points that some of the boxes has."""
    if not isinstance(boxes, (list, tuple)):
        raise NoBoxes(boxes)
    for box in boxes:
        if not is_box(frame, box):
            raise NoBoxes(box)
    return boxes_by(turns_by_day(frame, boxes))


def all_boxes(frame):
    """The tidy boxes of all points of a frame."""
    return [(key, 0, frame.days, 0, frame.turns) for key in frame.key_names()]


def table_if_tidy(frame, thing):
    """The table of tidy boxes of the frame; None, where the thing is none."""
    if not isinstance(thing, list) or not all(is_box(frame, box) for box in thing):
        return None
    table = turns_by_day(frame, thing)
    return table if boxes_by(table) == thing else None


def is_tidy(frame, thing):
    """Whether a thing is tidy boxes of the frame."""
    return table_if_tidy(frame, thing) is not None


def tidy_table(frame, boxes):
    """The table of tidy boxes of the frame; what is none is refused."""
    table = table_if_tidy(frame, boxes)
    if table is None:
        raise NoBoxes(boxes)
    return table


def joined_boxes(frame, one, other):
    """The tidy boxes of the points that one of both has."""
    mine = tidy_table(frame, one)
    theirs = tidy_table(frame, other)
    return boxes_by({key: [a | b for a, b in zip(mine[key], theirs[key])] for key in mine})


def common_boxes(frame, one, other):
    """The tidy boxes of the points that both have."""
    mine = tidy_table(frame, one)
    theirs = tidy_table(frame, other)
    return boxes_by({key: [a & b for a, b in zip(mine[key], theirs[key])] for key in mine})


def less_boxes(frame, one, other):
    """The tidy boxes of the points that the first has and the second hasn't."""
    mine = tidy_table(frame, one)
    theirs = tidy_table(frame, other)
    return boxes_by({key: [a & ~b for a, b in zip(mine[key], theirs[key])] for key in mine})


def lies_within(frame, one, other):
    """Whether the second has all points that the first has."""
    return less_boxes(frame, one, other) == []


def keys_with(frame, boxes):
    """The keys that have points, in the frame's order."""
    tidy_table(frame, boxes)
    # Tidy boxes stand key by key in that order.
    return list({box[0]: True for box in boxes})


def first_point(frame, boxes):
    """The first point by key, day and turn, or None."""
    tidy_table(frame, boxes)
    if not boxes:
        return None
    # The first of tidy boxes has the first key, its first day and that day's first turn.
    box = boxes[0]
    return (box[0], box[1], box[3])


def whole_mask(frame):
    """The mask of all points of a frame."""
    return mask_between(0, len(frame.key_names()) * frame.days * frame.turns)


def key_mask(frame, keys):
    """The mask of the points of those of some names that are keys of the frame."""
    size = frame.days * frame.turns
    places = [frame.place_of(key) for key in frame.key_names() if key in keys]
    return sum([mask_between(place * size, place * size + size) for place in places])


def day_mask(frame, begin, end):
    """The mask of the points of the days from begin to ahead of the end, as far as the frame has them."""
    days = mask_between(min(begin, frame.days) * frame.turns, min(end, frame.days) * frame.turns)
    return repeated(days, frame.days * frame.turns, len(frame.key_names()))


def turn_mask(frame, turns):
    """The mask of the points of those turns of a mask that the frame has."""
    mine = turns & mask_between(0, frame.turns)
    return repeated(mine, frame.turns, len(frame.key_names()) * frame.days)


def boxes_in(frame, mask):
    """The tidy boxes of the points of a mask."""
    table = {}
    for key in frame.key_names():
        mine = mask >> frame.place_of(key) * frame.days * frame.turns
        # What is cut to one key ahead of the days is read day by day the faster.
        mine &= mask_between(0, frame.days * frame.turns)
        table[key] = [mine >> day * frame.turns & mask_between(0, frame.turns) for day in range(frame.days)]
    return boxes_by(table)


def first_point_in(frame, mask):
    """The first point of a mask that has one, by the key's place, then by the day and the turn."""
    days, turn = divmod(first_in(mask), frame.turns)
    place, day = divmod(days, frame.days)
    return (frame.key_names()[place], day, turn)
