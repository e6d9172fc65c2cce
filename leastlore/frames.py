"""Frames: keys in an order, days and turns."""

from leastlore.errors import NoFrame, NoKey, NoPoint
from leastlore.words import is_name, is_within

MOST_KEYS = 12
MOST_DAYS = 400
MOST_TURNS = 400


class Frame:
    """Keys, days and turns; it never changes."""

    def __init__(self, keys, days, turns):
        if not are_keys(keys):
            raise NoFrame(keys)
        if not is_within(days, 1, MOST_DAYS):
            raise NoFrame(days)
        if not is_within(turns, 1, MOST_TURNS):
            raise NoFrame(turns)
        self.days = days
        self.turns = turns
        self._places = {key: place for place, key in enumerate(keys)}

    def key_names(self):
        """The keys, in their order."""
        return list(self._places)

    def now(self):
        """The last turn."""
        return self.turns - 1

    def has_key(self, thing):
        """Whether a thing is one of the keys."""
        # Not every thing can be looked up in a dict, but names can.
        return is_name(thing) and thing in self._places

    def place_of(self, key):
        """Which place a key has among the keys."""
        if not self.has_key(key):
            raise NoKey(key)
        return self._places[key]

    def is_point(self, thing):
        """Whether a thing is a point of this frame."""
        if not isinstance(thing, tuple) or len(thing) != 3:
            return False
        key, day, turn = thing
        return self.has_key(key) and is_within(day, 0, self.days - 1) and is_within(turn, 0, self.turns - 1)

    def told(self):
        """The frame as a tuple."""
        return (tuple(self._places), self.days, self.turns)


def are_keys(thing):
    """Whether a thing has the keys of a frame."""
    if not isinstance(thing, (list, tuple)) or not 1 <= len(thing) <= MOST_KEYS:
        return False
    return all(is_name(key) for key in thing) and len(set(thing)) == len(thing)


def checked_point(frame, thing):
    """The thing, a point of the frame; what is none is refused."""
    if not frame.is_point(thing):
        raise NoPoint(thing)
    return thing


def frame_of(told):
    """The frame that tells just this."""
    if not isinstance(told, tuple) or len(told) != 3 or not isinstance(told[0], tuple):
        raise NoFrame(told)
    keys, days, turns = told
    try:
        return Frame(keys, days, turns)
    except NoFrame:
        raise NoFrame(told) from None


def same_frame(one, other):
    """Whether two frames tell the same."""
    return one.told() == other.told()
