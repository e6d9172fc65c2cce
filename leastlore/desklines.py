"""The lines that a desk takes, read."""

from leastlore.errors import NoLine
from leastlore.frames import MOST_KEYS
from leastlore.rightstext import row_on
from leastlore.words import is_name, is_value, plain_number

MOST_SAID = 999999999

# How lines are written, but those of frames, findings, and rows of rights: small words stand for themselves.
FORMS = (
    "drop N", "rights", "boxes", "ask KEY N N", "read KEY N N", "why KEY N N", "ladder KEY N", "book", "paper", "thin",
    "keep KEY", "fetch KEY", "pour KEY", "lack KEY", "send KEY", "forget KEY", "store N", "save", "save N", "open",
    "open N", "purge KEY", "purge KEY N", "bears KEY",
)
FORM_OF_FINDING = "find KEY VALUE days N N known N"


def read_line(line):
    """What a line says: its first word, and what stands behind it."""
    told = told_by(line) if isinstance(line, str) else None
    if told is None:
        raise NoLine(line)
    return told


def told_by(line):
    """What a text says as a line, or None."""
    words = line.split(" ")
    match words[0]:
        case "frame":
            return frame_by(words)
        case "let" | "bar":
            return row_on(line)
        case "find":
            things = things_by(FORM_OF_FINDING, words)
            return None if things is None else ("find", tuple(things))
    found = [things_by(form, words) for form in FORMS]
    fitting = [said for said in found if said is not None]
    return tuple(words[:1] + fitting[0]) if fitting else None


def things_by(form, words):
    """The things that words say where they are written in a form, or None."""
    shapes = form.split(" ")
    if len(words) != len(shapes):
        return None
    pairs = list(zip(shapes, words))
    if any(shape != word for shape, word in pairs if shape.islower()):
        return None
    things = [thing_by(shape, word) for shape, word in pairs if shape.isupper()]
    return None if None in things else things


def thing_by(shape, word):
    """The thing of a shape that a word says, or None."""
    if shape == "KEY":
        return word if is_name(word) else None
    if shape == "VALUE":
        return word if is_value(word) else None
    return plain_number(word, MOST_SAID)


def frame_by(words):
    """What words say as a line of a frame, or None."""
    keys = words[1:-4]
    things = things_by("days N turns N", words[-4:])
    if things is None or not 1 <= len(keys) <= MOST_KEYS or not all(is_name(key) for key in keys):
        return None
    days, turns = things
    return ("frame", tuple(keys), days, turns)
