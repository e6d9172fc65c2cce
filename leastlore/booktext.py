"""Books, written as text and read."""

from leastlore.books import Book
from leastlore.errors import NoFrame, NoText
from leastlore.findings import is_finding
from leastlore.frames import MOST_DAYS, MOST_TURNS, Frame
from leastlore.words import plain_number


def show_said(finding):
    """What a finding says of its key, as words."""
    value, begin, end, known = finding[1:]
    return f"{value} days {begin} {end} known {known}"


def show_finding(finding):
    """A finding as a row."""
    return f"{finding[0]} {show_said(finding)}"


def show_frame(frame):
    """A frame as a row."""
    names = " ".join(frame.key_names())
    return f"frame {names} days {frame.days} turns {frame.turns}"


def show_book(book):
    """A book as a text."""
    return "\n".join([show_frame(book.frame)] + [show_finding(part) for part in book.parts()])


def frame_on(row):
    """The frame that a row writes, or None."""
    words = row.split(" ")
    if len(words) < 6 or words[0] != "frame" or words[-4] != "days" or words[-2] != "turns":
        return None
    days = plain_number(words[-3], MOST_DAYS)
    turns = plain_number(words[-1], MOST_TURNS)
    try:
        return Frame(words[1:-4], days, turns)
    except NoFrame:
        return None


def finding_by(words):
    """What words write as a finding is written, be it one or not; None, where they aren't those of a finding."""
    if len(words) != 7 or words[2] != "days" or words[5] != "known":
        return None
    begin = plain_number(words[3], MOST_DAYS)
    end = plain_number(words[4], MOST_DAYS)
    return (words[0], words[1], begin, end, plain_number(words[6], MOST_TURNS))


def finding_on(frame, row):
    """The finding of the frame that a row writes, or None."""
    finding = finding_by(row.split(" "))
    return finding if is_finding(frame, finding) else None


def read_book(text):
    """The book that a text writes."""
    if not isinstance(text, str):
        raise NoText(0)
    rows = text.split("\n")
    frame = frame_on(rows[0])
    if frame is None:
        raise NoText(0)
    findings = []
    for at, row in enumerate(rows[1:], start=1):
        finding = finding_on(frame, row)
        if finding is None:
            raise NoText(at)
        findings.append(finding)
    return Book(frame, findings)
