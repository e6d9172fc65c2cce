"""What several tests need: strange things, refusals, and plain sets to hold answers against."""

import copy

from leastlore.errors import NoKey
from leastlore.frames import Frame

SIXTY = int("9" * 60)

# A frame that is large where the others are small.
GREAT = Frame(["k" + letter for letter in "abcdefghijkl"], 400, 400)


def strange_things():
    """Any things: none is a name's own kind, a tidy row, a box, a point or a finding."""
    return [
        None, True, False, SIXTY, -SIXTY, -1, 401,
        "", " ", "A", "a b", "a\n", "\u00e9", "%", "find", "x" * 20000,
        [True], [None], [[]], [()], [(True, 2)], [(0, 1, 2)], [[0, 1]],
        (), (None,), (True, False), ([0], 1), (["a"], 0, 0), (["a"], 0, 1, 0, 1),
        {}, {"a": 1}, {0: [1]}, Frame, NoKey("a"), Frame(["a"], 1, 1), Frame(["zz"], 3, 3),
        ("a", [0], 0), ("a", 0, [0]), ("a", True, 0), ("a", 0, False), ("a", "0", 0),
        ("a", (0,), (0,), 1, 2), ("a", 0, 1, 0, True), ("a", 0, True, 0, 1),
        [[[[[[[[["a", {"b": [(1, {})]}]]]]]]]]],
    ]


def refusal(case, kind, call, *given, **named):
    """The error with which a call is refused: one of just this class."""
    try:
        told = call(*given, **named)
    except ValueError as error:
        case.assertIs(type(error), kind, (given, named))
        return error
    case.fail(f"not refused, but told {told!r:.80} of {given!r:.80} {named!r:.80}")


def check_found(case, kind, found, call, *given, **named):
    """That a call is refused with the very thing found, and changes nothing handed in."""
    before = [copied(thing) for thing in given]
    error = refusal(case, kind, call, *given, **named)
    case.assertIs(error.found, found)
    check_same(case, given, before)


def check_fields(case, kind, fields, call, *given):
    """That a call is refused with fields equal to these."""
    error = refusal(case, kind, call, *given)
    case.assertEqual({name: getattr(error, name) for name in fields}, fields, given)


def copied(thing):
    """A deep copy of lists, tuples and dicts; all else stays itself."""
    if type(thing) is list:
        return [copied(inner) for inner in thing]
    if type(thing) is tuple:
        return tuple(copied(inner) for inner in thing)
    if type(thing) is dict:
        return {key: copied(thing[key]) for key in thing}
    return thing


def check_same(case, given, before):
    """That what was handed in is as it was."""
    for thing, old in zip(given, before):
        case.assertEqual(repr(copied(thing)), repr(old))


def check_new_each_time(case, call, *given, **named):
    """That what is told is equal each time, and a new list, the asker's own."""
    before = copy.copy([copied(thing) for thing in given])
    first = call(*given, **named)
    case.assertIs(type(first), list)
    kept = copied(first)
    case.assertFalse(any(first is thing for thing in given))
    first.append("spoilt")
    first.reverse()
    case.assertEqual(call(*given, **named), kept)
    check_same(case, given, before)
    return kept


def row_of(numbers):
    """The tidy row of some numbers, found by going through all of them."""
    row = []
    for number in range(400):
        if number in numbers:
            if row and row[-1][1] == number:
                row[-1] = (row[-1][0], number + 1)
            else:
                row.append((number, number + 1))
    return row


def points_of(boxes):
    """The points of any boxes, one by one."""
    return {
        (key, at, turn)
        for key, day, day_end, first, end in boxes
        for at in range(day, day_end)
        for turn in range(first, end)
    }


def all_points(frame):
    """All points of a frame, in order."""
    return [
        (key, day, turn)
        for key in frame.key_names()
        for day in range(frame.days)
        for turn in range(frame.turns)
    ]


def tidy_of(frame, points):
    """The tidy boxes of a set of points, by the words of point 3."""
    told = []
    for key in frame.key_names():
        turns = [row_of({turn for turn in range(frame.turns) if (key, day, turn) in points})
                 for day in range(frame.days)]
        day = 0
        while day < frame.days:
            end = day + 1
            while end < frame.days and turns[end] == turns[day]:
                end += 1
            told += [(key, day, end, begin, behind) for begin, behind in turns[day]]
            day = end
    return told


def some_boxes(chance, frame, most):
    """A list of at most so many boxes, by the chance of a test's own seed."""
    found = []
    for _ in range(chance.randrange(most + 1)):
        day, day_end = sorted(chance.sample(range(frame.days + 1), 2))
        turn, turn_end = sorted(chance.sample(range(frame.turns + 1), 2))
        found.append((chance.choice(frame.key_names()), day, day_end, turn, turn_end))
    return found
