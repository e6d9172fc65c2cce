"""Papers, written as text and read."""

from leastlore.booktext import finding_by, show_finding, show_said
from leastlore.errors import NoText
from leastlore.frames import MOST_TURNS
from leastlore.papers import KEPT, LEFT, check_form, is_paper_row
from leastlore.words import plain_number

# As many words has a finding; as many, too, has a cover with the word ahead of it, but without its key.
MANY_WORDS = 7


def show_paper(paper):
    """A paper as a text."""
    check_form(paper)
    return "\n".join([show_row(row) for row in paper])


def show_row(row):
    """A row of a paper as words."""
    word, piece, reasons = row
    if word == KEPT:
        return " ".join([KEPT, show_finding(piece), "at"] + [str(turn) for turn in reasons])
    return " ".join([LEFT, show_finding(piece)] + [f"by {show_said(cover)}" for cover in reasons])


def read_paper(text):
    """The paper that a text writes."""
    if not isinstance(text, str):
        raise NoText(0)
    if text == "":
        return []
    paper = [row_by(row.split(" ")) for row in text.split("\n")]
    for at, row in enumerate(paper):
        if not is_paper_row(row):
            raise NoText(at)
    return paper


def row_by(words):
    """What words write as a paper's row is written, be it one or not; None, where they aren't those of a row."""
    piece = finding_by(words[1:1 + MANY_WORDS])
    behind = words[1 + MANY_WORDS:]
    if words[0] == KEPT and behind[:1] == ["at"]:
        return (KEPT, piece, tuple([plain_number(word, MOST_TURNS) for word in behind[1:]]))
    if words[0] == LEFT:
        starts = range(0, len(behind), MANY_WORDS)
        return (LEFT, piece, tuple([cover_by(words[1], behind[at:at + MANY_WORDS]) for at in starts]))
    return None


def cover_by(key, words):
    """What words write as a cover of a key is written, or None."""
    return finding_by([key] + words[1:]) if words[0] == "by" else None
