"""Sets of points of a frame, told as tidy boxes."""

from leastlore.boxes import is_box
from leastlore.errors import NoBoxes
from leastlore.masks import mask_between, runs_in


def turns_by_day(frame, boxes):
    """For each key a list with the mask, for each day, of the turns that some box has."""
    table = {key: [0] * frame.days for key in frame.key_names()}
    for key, day, day_end, turn, turn_end in boxes:
        row = table[key]
        turns = mask_between(turn, turn_end)
        for at in range(day, day_end):
            row[at] |= turns
    return table


def alike_runs(masks):
    """The longest runs of days, side by side, with the same mask, as stretches."""
    runs = []
    begin = 0
    for end in range(1, len(masks) + 1):
        if end == len(masks) or masks[end] != masks[begin]:
            runs.append((begin, end))
            begin = end
    return runs


def boxes_by(table):
    """The tidy boxes of the points of such a table."""
    boxes = []
    for key in table:
        masks = table[key]
        for day, day_end in alike_runs(masks):
            for turn, turn_end in runs_in(masks[day]):
                boxes.append((key, day, day_end, turn, turn_end))
    return boxes


def boxes_of(frame, boxes):
    """The tidy boxes of all points that some of the boxes has."""
    if not isinstance(boxes, (list, tuple)):
        raise NoBoxes(boxes)
    for box in boxes:
        if not is_box(frame, box):
            raise NoBoxes(box)
    return boxes_by(turns_by_day(frame, boxes))


def all_boxes(frame):
    """The tidy boxes of all points of a frame."""
    return [(key, 0, frame.days, 0, frame.turns) for key in frame.key_names()]


def is_tidy(frame, thing):
    """Whether a thing is tidy boxes of the frame."""
    if not isinstance(thing, list) or not all(is_box(frame, box) for box in thing):
        return False
    return boxes_by(turns_by_day(frame, thing)) == thing


def check_tidy(frame, boxes):
    """Refuses what is no tidy boxes of the frame."""
    if not is_tidy(frame, boxes):
        raise NoBoxes(boxes)


def joined_boxes(frame, one, other):
    """The tidy boxes of the points that one of both has."""
    check_tidy(frame, one)
    check_tidy(frame, other)
    return boxes_by(turns_by_day(frame, one + other))


def common_boxes(frame, one, other):
    """The tidy boxes of the points that both have."""
    check_tidy(frame, one)
    check_tidy(frame, other)
    mine = turns_by_day(frame, one)
    theirs = turns_by_day(frame, other)
    return boxes_by({key: [a & b for a, b in zip(mine[key], theirs[key])] for key in mine})


def less_boxes(frame, one, other):
    """The tidy boxes of the points that the first has and the second hasn't."""
    check_tidy(frame, one)
    check_tidy(frame, other)
    mine = turns_by_day(frame, one)
    theirs = turns_by_day(frame, other)
    return boxes_by({key: [a & ~b for a, b in zip(mine[key], theirs[key])] for key in mine})


def lies_within(frame, one, other):
    """Whether the second has all points that the first has."""
    return less_boxes(frame, one, other) == []


def keys_with(frame, boxes):
    """The keys that have points, in the frame's order."""
    check_tidy(frame, boxes)
    # Tidy boxes stand key by key in that order.
    return list({box[0]: True for box in boxes})


def first_point(frame, boxes):
    """The first point by key, day and turn, or None."""
    check_tidy(frame, boxes)
    if not boxes:
        return None
    # The first of tidy boxes has the first key, its first day and that day's first turn.
    box = boxes[0]
    return (box[0], box[1], box[3])
