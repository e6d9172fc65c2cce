"""Tidy boxes, written as text and read."""

from leastlore.boxes import is_box
from leastlore.boxsets import is_tidy
from leastlore.errors import NoBoxes, NoText
from leastlore.frames import MOST_DAYS, MOST_TURNS
from leastlore.words import plain_number


def show_boxes(boxes):
    """Tidy boxes as a text."""
    return "\n".join([f"{key} {day} {day_end} {turn} {turn_end}" for key, day, day_end, turn, turn_end in boxes])


def box_on(frame, row):
    """The box of the frame that a row writes, or None."""
    words = row.split(" ")
    days = [plain_number(word, MOST_DAYS) for word in words[1:3]]
    turns = [plain_number(word, MOST_TURNS) for word in words[3:]]
    box = (words[0], *days, *turns)
    return box if is_box(frame, box) else None


def read_boxes(frame, text):
    """The tidy boxes that a text writes."""
    if not isinstance(text, str):
        raise NoText(0)
    if text == "":
        return []
    boxes = []
    for at, row in enumerate(text.split("\n")):
        box = box_on(frame, row)
        if box is None:
            raise NoText(at)
        boxes.append(box)
    if not is_tidy(frame, boxes):
        raise NoBoxes(boxes)
    return boxes
