"""What a finding is."""

from leastlore.frames import MOST_DAYS, MOST_TURNS
from leastlore.runs import is_span
from leastlore.words import is_name, is_value, is_within


def is_some_finding(thing):
    """Whether a thing is a finding of some frame."""
    if not isinstance(thing, tuple) or len(thing) != 5:
        return False
    key, value, begin, end, known = thing
    if not is_name(key) or not is_value(value):
        return False
    return is_span(begin, end, MOST_DAYS) and is_within(known, 0, MOST_TURNS - 1)


def is_finding(frame, thing):
    """Whether a thing is a finding of the frame."""
    if not is_some_finding(thing):
        return False
    return frame.has_key(thing[0]) and thing[3] <= frame.days and thing[4] < frame.turns
