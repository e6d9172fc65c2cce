"""Boxes of a frame, and what tidy boxes have."""

from leastlore.masks import mask_between, runs_in
from leastlore.runs import is_span
from leastlore.words import is_whole


def is_box(frame, thing):
    """Whether a thing is a box of the frame."""
    if not isinstance(thing, tuple) or len(thing) != 5:
        return False
    key, day, day_end, turn, turn_end = thing
    return frame.has_key(key) and is_span(day, day_end, frame.days) and is_span(turn, turn_end, frame.turns)


def has_point(boxes, thing):
    """Whether a thing is a point that the boxes have."""
    return box_with(boxes, thing) is not None


def box_with(boxes, thing):
    """The one box that has a point, or None."""
    if not isinstance(thing, tuple) or len(thing) != 3:
        return None
    key, day, turn = thing
    # To Python a truth lies among the whole numbers, too.
    if not is_whole(day) or not is_whole(turn):
        return None
    for box in boxes:
        if box[0] == key and box[1] <= day < box[2] and box[3] <= turn < box[4]:
            return box
    return None


def turns_at(boxes, key, day):
    """The tidy row of the turns that the boxes have of a key and a day."""
    if not is_whole(day):
        return []
    # The boxes of one day stand in the order of their turns, and don't touch.
    return [(box[3], box[4]) for box in boxes if box[0] == key and box[1] <= day < box[2]]


def days_with(boxes, key):
    """The tidy row of the days on which the boxes have points of a key."""
    days = 0
    for box in boxes:
        if box[0] == key:
            days |= mask_between(box[1], box[2])
    return runs_in(days)


def how_many_points(boxes):
    """How many points the boxes have."""
    return sum((box[2] - box[1]) * (box[4] - box[3]) for box in boxes)
