"""What a finding is."""

from leastlore.runs import is_span
from leastlore.words import is_value, is_within


def is_finding(frame, thing):
    """Whether a thing is a finding of the frame."""
    if not isinstance(thing, tuple) or len(thing) != 5:
        return False
    key, value, begin, end, known = thing
    if not frame.has_key(key) or not is_value(value):
        return False
    return is_span(begin, end, frame.days) and is_within(known, 0, frame.turns - 1)
