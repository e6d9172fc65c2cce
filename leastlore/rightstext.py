"""Rights, written as text and read."""

from leastlore.errors import NoText
from leastlore.rights import BAR, LET, MOST_ROWS, Rights
from leastlore.rules import rule_of
from leastlore.ruletext import read_rule


def show_rights(rights):
    """Rights as a text."""
    return "\n".join([f"{word} {rule_of(told).words()}" for word, told in rights.rows()])


def row_on(row):
    """The row of rights that a row of a text writes, or None."""
    word, _, text = row.partition(" ")
    if word not in (LET, BAR):
        return None
    try:
        return (word, read_rule(text).told())
    except NoText:
        return None


def read_rights(text):
    """The rights that a text writes."""
    if not isinstance(text, str):
        raise NoText(0)
    if text == "":
        return Rights([])
    rows = []
    for at, row in enumerate(text.split("\n")):
        told = row_on(row) if at < MOST_ROWS else None
        if told is None:
            raise NoText(at)
        rows.append(told)
    return Rights(rows)
