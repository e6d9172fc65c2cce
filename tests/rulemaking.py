"""What the tests of rules and rights need: rules by chance, and what they hold by the words of the document."""

from leastlore.errors import NoKey
from leastlore.frames import Frame
from tests.things import GREAT, SIXTY, all_points, strange_things

FRAMES = [Frame(["b", "a"], 5, 4), Frame(["a"], 1, 1), Frame(["ab", "b", "zz", "a"], 7, 3), Frame(["c"], 3, 13)]
FRAME = FRAMES[0]

# What rules of the first seven kinds tell.
LEAVES = [
    ("all",), ("now",), ("key", ("a",)), ("key", ("a", "zz", "b")), ("key", ("q",)),
    ("key", ("l", "k", "j", "i", "h", "g", "f", "e", "d", "c", "b", "a")), ("key", ("keyed", "nows", "lasts")),
    ("days", 0, 1), ("days", 2, 4), ("days", 4, 5), ("days", 3, 400), ("days", 5, 6), ("days", 399, 400),
    ("days", 0, 400), ("turns", 0, 1), ("turns", 1, 3), ("turns", 3, 4), ("turns", 2, 400), ("turns", 4, 7),
    ("turns", 399, 400), ("last", 1), ("last", 2), ("last", 4), ("last", 5), ("last", 400), ("ends", 1, 0),
    ("ends", 1, 2), ("ends", 2, 0), ("ends", 2, 2), ("ends", 2, 3), ("ends", 3, 0), ("ends", 4, 0), ("ends", 5, 0),
    ("ends", 400, 0), ("ends", 1, 399), ("ends", 400, 399), ("ends", 3, 5),
]

# What no rule tells: no tuple, a strange word, too few or too many things, other kinds, beyond the bounds.
NOT_TOLD = [
    ["all"], ("all", None), ("all", "all"), "all", ("ALL",), ("any",), (), ("",), (None,), (["all"],), ("now", 0),
    ["now"], ("key",), ("key", "a"), ("key", ["a"]), ("key", ()), ("key", ("a", "a")), ("key", ("a", "B")),
    ("key", ("a", "last")), ("key", ("abcdefghi",)), ("key", ("a",), ("b",)), ("key", "a", "b"), ("key", (["a"],)),
    ("key", tuple("abcdefghijklm")), ("key", (("a",),)), ("key", {"a": 1}), ("key", None), ("days",), ("days", 3),
    ("days", 3, 3), ("days", 4, 3), ("days", 0, 401), ("days", -1, 3), ("days", (0, 3)), ("days", False, 3),
    ("days", 0, True), ("days", "0", "3"), ("days", 0, 3, 4), ("days", 0, SIXTY), ("days", None, None),
    ["days", 0, 3], ("turns", 3), ("turns", 3, 3), ("turns", 0, 401), ("turns", False, True), ("turns", 1, 2, 3),
    ("turns", [0, 3]), ("last",), ("last", 0), ("last", 401), ("last", True), ("last", "7"), ("last", [7]),
    ("last", 7, 7), ("last", -7), ("last", SIXTY), ("last", None), ("ends", 3), ("ends", 0, 0), ("ends", 401, 0),
    ("ends", 1, 400), ("ends", 1, -1), ("ends", True, 0), ("ends", 1, False), ("ends", 1, True), ("ends", 1, None),
    ("ends", 1, 0, 0), ("ends", (1, 0)), ("ends", [1], 0), ("both",), ("both", ("all",)), ("both", (("all",),)),
    ("both", ("all",), ("all",), ("all",)), ("both", ["all"], ("all",)), ("both", ("all",), ["now"]),
    ("both", "all", "all"), ["both", ("all",), ("all",)], ("both", ("all",), None), ("either", ("all",)),
    ("either", ("days", 3, 3), ("all",)), ("either", ("all",), ("key", ["a"])), ("but", ("all",), ("days", 0, True)),
    ("but", ("but", ("all",), ("last", True)), ("all",)), ("but", ("all",), ("but", ("all",), ("nothing",))),
    ("neither", ("all",), ("all",)), ("Both", ("all",), ("all",)), NoKey("a"), Frame(["a"], 1, 1), {"all": ()},
]
PAIRS = ["both", "either", "but"]


def nested(levels, word="both", left=True):
    """What a rule of so many levels would tell, were so many let."""
    told = ("all",)
    for _ in range(levels - 1):
        told = (word, told, ("now",)) if left else (word, ("now",), told)
    return told


def not_told():
    """Any things that no rule tells."""
    deep = [nested(levels, word, left) for levels in (5, 6, 9) for word in PAIRS for left in (True, False)]
    return NOT_TOLD + deep + strange_things()


def some_leaf(chance, frame):
    """What a rule of one level tells."""
    kind = chance.randrange(9)
    if kind == 0:
        return ("all",)
    if kind == 1:
        return ("now",)
    if kind in (2, 3):
        names = frame.key_names() + ["q", "qq"]
        return ("key", tuple(chance.sample(names, chance.randrange(1, min(4, len(names))))))
    if kind == 4:
        return ("days", *sorted(chance.sample(range(min(400, frame.days + 2) + 1), 2)))
    if kind == 5:
        return ("turns", *sorted(chance.sample(range(min(400, frame.turns + 2) + 1), 2)))
    if kind == 6:
        return ("last", chance.randrange(1, min(400, frame.turns + 2) + 1))
    return ("ends", chance.randrange(1, min(9, frame.turns + 2)), chance.randrange(frame.turns))


def some_told(chance, frame, levels):
    """What a rule of at most so many levels tells."""
    if levels == 1 or chance.randrange(4) == 0:
        return some_leaf(chance, frame)
    return (chance.choice(PAIRS), some_told(chance, frame, levels - 1), some_told(chance, frame, levels - 1))


def some_rows(chance, frame, most, levels=3):
    """Rows of rights."""
    return [(chance.choice(["let", "let", "bar"]), some_told(chance, frame, levels))
            for _ in range(chance.randrange(most + 1))]


def holds_by_hand(frame, told, point):
    """Whether what a rule tells holds a point, by the words of point 41."""
    word, things = told[0], told[1:]
    key, day, turn = point
    if word == "all":
        return True
    if word == "now":
        return turn == frame.turns - 1
    if word == "key":
        return key in things[0]
    if word == "days":
        return things[0] <= day <= things[1] - 1
    if word == "turns":
        return things[0] <= turn <= things[1] - 1
    if word == "last":
        return turn in list(range(frame.turns))[-things[0]:]
    if word == "ends":
        return turn >= things[1] and turn + 1 in range(0, 401, things[0])
    one, other = [holds_by_hand(frame, inner, point) for inner in things]
    return {"both": one and other, "either": one or other, "but": one and not other}[word]


def place_by_hand(frame, rows, point):
    """The place of a point by the words of point 52, None where it is allowed."""
    for number, (word, told) in enumerate(rows):
        if word == "bar" and holds_by_hand(frame, told, point):
            return number
    if any(word == "let" and holds_by_hand(frame, told, point) for word, told in rows):
        return None
    return len(rows)


def held_points(frame, told):
    return {point for point in all_points(frame) if holds_by_hand(frame, told, point)}


def allowed_points(frame, rows):
    return {point for point in all_points(frame) if place_by_hand(frame, rows, point) is None}


def great_points(chance, many):
    """Some points of the great frame, its corners among them."""
    corners = [(key, day, turn) for key in ("ka", "kl") for day in (0, 399) for turn in (0, 398, 399)]
    return corners + [(chance.choice(GREAT.key_names()), chance.randrange(400), chance.randrange(400))
                      for _ in range(many)]
