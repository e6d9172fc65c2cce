"""Rows that are sent, written as text and read."""

from leastlore.booktext import finding_by, show_said
from leastlore.checks import MOST_NUMBER
from leastlore.errors import NoText
from leastlore.findings import is_finding
from leastlore.sending import check_rows
from leastlore.words import plain_number

ROW = "row"


def show_rows(rows):
    """Rows as a text."""
    return "\n".join([line for row in rows for line in lines_of(row)])


def lines_of(row):
    """The lines of a row."""
    key, parts, check = row
    return [f"{ROW} {key} {check}"] + [show_said(part) for part in parts]


def read_rows(frame, text):
    """The rows of the frame that a text writes."""
    if not isinstance(text, str):
        raise NoText(0)
    if text == "":
        return []
    rows = rows_on(frame, text.split("\n"))
    check_rows(frame, rows)
    return rows


def rows_on(frame, lines):
    """What lines write as rows are written, be they rows or not."""
    rows = []
    for at, line in enumerate(lines):
        words = line.split(" ")
        part = finding_by([rows[-1][0]] + words) if rows else None
        # A row without parts can't stand ahead of another one, nor be the last one.
        if is_head(frame, words) and (not rows or rows[-1][1]):
            rows.append((words[1], [], plain_number(words[2], MOST_NUMBER)))
        elif is_finding(frame, part):
            rows[-1][1].append(part)
        else:
            raise NoText(at)
    if not rows[-1][1]:
        raise NoText(len(lines))
    return rows


def is_head(frame, words):
    """Whether words are those of the first line of a row."""
    if len(words) != 3 or words[0] != ROW or not frame.has_key(words[1]):
        return False
    return plain_number(words[2], MOST_NUMBER) is not None
