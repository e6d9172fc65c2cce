"""Rules: each tells, in any frame, a set of points."""

from leastlore.boxsets import boxes_in, day_mask, key_mask, turn_mask, whole_mask
from leastlore.errors import NoName, NoNumber, NoRule, NoStretch
from leastlore.frames import checked_point
from leastlore.masks import mask_between
from leastlore.runs import is_stretch
from leastlore.words import is_name, is_within

MOST_NAMES = 12
MOST_MANY = 400
MOST_BACK = 399
MOST_LEVELS = 4


class Rule:
    """One of the ten kinds below; not made by itself, and it never changes.

    Each of them tells how many levels it has; its points in a frame, as tidy boxes and as a mask; whether it holds
    a point; and itself, as nested tuples and as words.
    """


class All(Rule):
    """All points."""

    def levels(self):
        return 1

    def points(self, frame):
        return boxes_in(frame, self.mask(frame))

    def mask(self, frame):
        return whole_mask(frame)

    def holds(self, frame, point):
        checked_point(frame, point)
        return True

    def told(self):
        return ("all",)

    def words(self):
        return "all"


class Now(Rule):
    """The points of the turn now."""

    def levels(self):
        return 1

    def points(self, frame):
        return boxes_in(frame, self.mask(frame))

    def mask(self, frame):
        return turn_mask(frame, 1 << frame.now())

    def holds(self, frame, point):
        return checked_point(frame, point)[2] == frame.now()

    def told(self):
        return ("now",)

    def words(self):
        return "now"


class Keyed(Rule):
    """The points of the keys among some names."""

    def __init__(self, names):
        check_names(names)
        self._names = tuple(names)

    def levels(self):
        return 1

    def points(self, frame):
        return boxes_in(frame, self.mask(frame))

    def mask(self, frame):
        return key_mask(frame, self._names)

    def holds(self, frame, point):
        return checked_point(frame, point)[0] in self._names

    def told(self):
        return ("key", self._names)

    def words(self):
        return " ".join(["key", *self._names])


class Days(Rule):
    """The points of the days from begin to ahead of the end."""

    def __init__(self, begin, end):
        self._begin, self._end = checked_stretch(begin, end)

    def levels(self):
        return 1

    def points(self, frame):
        return boxes_in(frame, self.mask(frame))

    def mask(self, frame):
        return day_mask(frame, self._begin, self._end)

    def holds(self, frame, point):
        return self._begin <= checked_point(frame, point)[1] < self._end

    def told(self):
        return ("days", self._begin, self._end)

    def words(self):
        return f"days {self._begin} {self._end}"


class Turns(Rule):
    """The points of the turns from begin to ahead of the end."""

    def __init__(self, begin, end):
        self._begin, self._end = checked_stretch(begin, end)

    def levels(self):
        return 1

    def points(self, frame):
        return boxes_in(frame, self.mask(frame))

    def mask(self, frame):
        return turn_mask(frame, mask_between(self._begin, self._end))

    def holds(self, frame, point):
        return self._begin <= checked_point(frame, point)[2] < self._end

    def told(self):
        return ("turns", self._begin, self._end)

    def words(self):
        return f"turns {self._begin} {self._end}"


class Last(Rule):
    """The points of the last so many turns."""

    def __init__(self, many):
        self._many = checked_number(many, 1, MOST_MANY)

    def levels(self):
        return 1

    def points(self, frame):
        return boxes_in(frame, self.mask(frame))

    def mask(self, frame):
        return turn_mask(frame, mask_between(max(0, frame.turns - self._many), frame.turns))

    def holds(self, frame, point):
        return checked_point(frame, point)[2] >= frame.turns - self._many

    def told(self):
        return ("last", self._many)

    def words(self):
        return f"last {self._many}"


class Ends(Rule):
    """The points of those turns, from a turn back on, with which a run of so many turns ends."""

    def __init__(self, many, back):
        self._many = checked_number(many, 1, MOST_MANY)
        self._back = checked_number(back, 0, MOST_BACK)

    def levels(self):
        return 1

    def points(self, frame):
        return boxes_in(frame, self.mask(frame))

    def mask(self, frame):
        ends = range(self._many - 1, frame.turns, self._many)
        return turn_mask(frame, sum([1 << turn for turn in ends if turn >= self._back]))

    def holds(self, frame, point):
        turn = checked_point(frame, point)[2]
        return turn >= self._back and (turn + 1) % self._many == 0

    def told(self):
        return ("ends", self._many, self._back)

    def words(self):
        return f"ends {self._many} {self._back}"


class Both(Rule):
    """The points that both rules have."""

    def __init__(self, one, other):
        self._one, self._other = checked_pair(one, other)

    def levels(self):
        return 1 + max(self._one.levels(), self._other.levels())

    def points(self, frame):
        return boxes_in(frame, self.mask(frame))

    def mask(self, frame):
        return self._one.mask(frame) & self._other.mask(frame)

    def holds(self, frame, point):
        return self._one.holds(frame, point) and self._other.holds(frame, point)

    def told(self):
        return ("both", self._one.told(), self._other.told())

    def words(self):
        return f"both ( {self._one.words()} ) ( {self._other.words()} )"


class Either(Rule):
    """The points that one of both rules has, or both."""

    def __init__(self, one, other):
        self._one, self._other = checked_pair(one, other)

    def levels(self):
        return 1 + max(self._one.levels(), self._other.levels())

    def points(self, frame):
        return boxes_in(frame, self.mask(frame))

    def mask(self, frame):
        return self._one.mask(frame) | self._other.mask(frame)

    def holds(self, frame, point):
        return self._one.holds(frame, point) or self._other.holds(frame, point)

    def told(self):
        return ("either", self._one.told(), self._other.told())

    def words(self):
        return f"either ( {self._one.words()} ) ( {self._other.words()} )"


class But(Rule):
    """The points that the one rule has and the other one hasn't."""

    def __init__(self, one, other):
        self._one, self._other = checked_pair(one, other)

    def levels(self):
        return 1 + max(self._one.levels(), self._other.levels())

    def points(self, frame):
        return boxes_in(frame, self.mask(frame))

    def mask(self, frame):
        return self._one.mask(frame) & ~self._other.mask(frame)

    def holds(self, frame, point):
        return self._one.holds(frame, point) and not self._other.holds(frame, point)

    def told(self):
        return ("but", self._one.told(), self._other.told())

    def words(self):
        return f"but ( {self._one.words()} ) ( {self._other.words()} )"


def is_rule(thing):
    """Whether a thing is a rule."""
    return isinstance(thing, (All, Now, Keyed, Days, Turns, Last, Ends, Both, Either, But))


def check_names(names):
    """Refuses what are no names of a rule."""
    if not isinstance(names, (list, tuple)) or not 1 <= len(names) <= MOST_NAMES:
        raise NoRule(names)
    for name in names:
        if not is_name(name):
            raise NoName(name)
    if len(set(names)) < len(names):
        raise NoRule(names)


def checked_stretch(begin, end):
    """The stretch from begin to ahead of the end; what is none is refused."""
    stretch = (begin, end)
    if not is_stretch(stretch):
        raise NoStretch(stretch)
    return stretch


def checked_number(thing, low, high):
    """The thing, a whole number from low to high; what is none is refused."""
    if not is_within(thing, low, high):
        raise NoNumber(thing)
    return thing


def checked_pair(one, other):
    """Two rules that a rule can be made of; what is none is refused."""
    for thing in (one, other):
        if not is_rule(thing) or thing.levels() == MOST_LEVELS:
            raise NoRule(thing)
    return one, other


def rule_of(told):
    """The rule that tells just this."""
    try:
        return rule_by(told)
    except (NoName, NoNumber, NoRule, NoStretch):
        raise NoRule(told) from None


def rule_by(told):
    """The rule that tells just this; anything else is refused in one way or another."""
    # To a pattern a list is as good as a tuple.
    if not isinstance(told, tuple):
        raise NoRule(told)
    match told:
        case ("all",):
            return All()
        case ("now",):
            return Now()
        case ("key", names) if isinstance(names, tuple):
            return Keyed(names)
        case ("days", begin, end):
            return Days(begin, end)
        case ("turns", begin, end):
            return Turns(begin, end)
        case ("last", many):
            return Last(many)
        case ("ends", many, back):
            return Ends(many, back)
        case ("both", one, other):
            return Both(rule_by(one), rule_by(other))
        case ("either", one, other):
            return Either(rule_by(one), rule_by(other))
        case ("but", one, other):
            return But(rule_by(one), rule_by(other))
    raise NoRule(told)


def check_rules(rules):
    """Refuses what is no list and no tuple of rules."""
    if not isinstance(rules, (list, tuple)):
        raise NoRule(rules)
    for rule in rules:
        if not is_rule(rule):
            raise NoRule(rule)


def held_by_all(frame, rules):
    """The tidy boxes of the points that all of the rules have."""
    check_rules(rules)
    mask = whole_mask(frame)
    for rule in rules:
        mask &= rule.mask(frame)
    return boxes_in(frame, mask)


def held_by_some(frame, rules):
    """The tidy boxes of the points that some of the rules has."""
    check_rules(rules)
    mask = 0
    for rule in rules:
        mask |= rule.mask(frame)
    return boxes_in(frame, mask)
