"""Points 123 to 126: the desk."""

import random
import unittest

from leastlore.desk import Desk
from leastlore.errors import (
    Clash, Dark, Full, LoreError, NoDisk, NoFinding, NoFrame, NoKey, NoLine, NoName, NoNumber, NoPoint, NoRights,
    NotAllowed, NotThinner,
)
from tests.deskmaking import DeskByHand
from tests.rulemaking import some_told
from tests.test_desklines import BAD, GOOD, line_by_hand, shown
from tests.test_sending import FRAME, row_by_hand
from tests.things import check_fields, check_new_each_time, copied, refusal, strange_things

# A desk's lines and what is told of each, one behind the other.
STORY = [
    ("frame b a days 5 turns 4", ["ok"]), ("book", ["frame b a days 5 turns 4"]), ("rights", []), ("boxes", []),
    ("paper", []), ("thin", []), ("find b x days 0 5 known 1", ["parts 1"]), ("find a x days 1 4 known 0", ["parts 2"]),
    ("find a y days 0 2 known 2", ["parts 3"]), ("find a x days 0 1 known 0", ["parts 3"]),
    ("find a x days 0 4 known 0", ["parts 3"]), ("keep whole", ["ok"]),
    ("book", ["frame b a days 5 turns 4", "b x days 0 5 known 1", "a x days 0 4 known 0", "a y days 0 2 known 2"]),
    ("ladder a 1", ["0 2 x known 0", "2 4 y known 2"]), ("ladder b 4", ["0 1 nothing", "1 4 x known 1"]),
    ("ladder a 4", ["0 4 nothing"]), ("read a 1 3", ["y known 2"]), ("read a 4 3", ["nothing"]), ("why a 1 3", []),
    ("let last 1", ["rows 1"]), ("bar both ( key b ) ( days 3 9 )", ["rows 2"]), ("let key b", ["rows 3"]),
    ("rights", ["let last 1", "bar both ( key b ) ( days 3 9 )", "let key b"]),
    ("boxes", ["b 0 3 0 4", "a 0 5 3 4"]), ("ask a 1 3", ["y known 2"]), ("ask b 0 0", ["nothing"]),
    ("why b 4 3", ["0 let yes", "1 bar yes", "2 let yes"]), ("why a 0 2", ["0 let no", "1 bar no", "2 let no"]),
    ("paper", ["kept b x days 0 3 known 1 at 1 1 1", "left b x days 3 5 known 1",
               "left a x days 0 2 known 0 by y days 0 2 known 2", "kept a x days 2 4 known 0 at 3 3",
               "kept a y days 0 2 known 2 at 3 3"]),
    ("thin", ["b x days 3 5 known 1", "a x days 0 2 known 0"]), ("thin", []),
    ("book", ["frame b a days 5 turns 4", "b x days 0 3 known 1", "a x days 2 4 known 0", "a y days 0 2 known 2"]),
    ("lack whole", []), ("keep thinned", ["ok"]), ("fetch whole", ["parts 3"]),
    ("lack thinned", ["b x days 3 5 known 1", "a x days 0 2 known 0"]), ("fetch thinned", ["parts 3"]),
    ("pour whole", ["parts 3"]), ("lack whole", []), ("forget a", ["parts 1"]), ("keep less", ["ok"]),
    ("fetch thinned", ["parts 3"]), ("forget b", ["parts 2"]), ("keep less", ["ok"]), ("fetch whole", ["parts 3"]),
    ("drop 1", ["rows 2"]), ("rights", ["let last 1", "let key b"]), ("store 7", ["ok"]), ("bears a", []),
    ("save", ["count 1"]), ("bears a", ["3 4"]), ("bears b", ["2"]), ("save 20", ["count 2"]), ("purge b", ["count 3"]),
    ("bears b", []), ("ladder b 4", ["0 1 nothing", "1 4 x known 1"]), ("open", ["parts 2"]),
    ("book", ["frame b a days 5 turns 4", "a x days 0 4 known 0", "a y days 0 2 known 2"]), ("purge a 60", ["count 4"]),
    ("open 0", ["parts 0"]), ("find a z days 0 1 known 3", ["parts 1"]), ("save", ["count 5"]), ("store 4", ["ok"]),
    ("open", ["parts 0"]), ("frame c days 1 turns 1", ["ok"]), ("rights", []), ("book", ["frame c days 1 turns 1"]),
]


def told_to(lines):
    """A desk to which these lines were said."""
    desk = Desk()
    for line in lines:
        desk.say(line)
    return desk


def ready(*lines):
    return told_to(["frame b a c days 5 turns 4", *lines])


def outcome(call, *given):
    """What is told, or of which class the refusal is, with its fields."""
    try:
        return call(*given)
    except LoreError as error:
        return type(error).__name__, vars(error)


class Told(unittest.TestCase):

    def test_a_story(self):
        desk = Desk()
        for line, told in STORY:
            self.assertEqual(desk.say(line=line), told, line)

    def test_each_telling_is_a_new_list(self):
        for at in range(1, len(STORY), 4):
            desk = told_to([line for line, _ in STORY[:at]])
            for line in ("book", "rights", "boxes", "paper", "ladder c 0", "why c 0 0"):
                if outcome(desk.say, line)[:1] not in (("NoKey",), ("NoPoint",)):
                    check_new_each_time(self, desk.say, line)

    def test_two_desks_have_nothing_in_common(self):
        one, other = Desk(), Desk()
        one.say("frame a days 5 turns 4")
        refusal(self, NoFrame, other.say, "book")
        other.say("frame a days 5 turns 4")
        for line in ("find a x days 0 1 known 0", "let all", "keep k", "store 5", "save"):
            one.say(line)
        self.assertEqual(other.say("book"), ["frame a days 5 turns 4"])
        self.assertEqual(other.say("rights"), [])
        refusal(self, NoName, other.say, "fetch k")
        refusal(self, NoDisk, other.say, "open")

    def test_kept_books_stay_when_the_desks_own_changes(self):
        desk = ready("find a x days 0 3 known 0", "keep k", "find a y days 0 1 known 1", "let now", "thin")
        self.assertEqual(desk.say("fetch k"), ["parts 1"])
        self.assertEqual(desk.say("book")[1:], ["a x days 0 3 known 0"])

    def test_sent(self):
        desk = ready("find a x days 0 3 known 0", "find b y days 0 1 known 1", "keep k", "find a z days 1 2 known 2",
                     "find c w days 0 5 known 3", "let all")
        a, c = row_by_hand(FRAME, [("a", "z", 1, 2, 2)]), row_by_hand(FRAME, [("c", "w", 0, 5, 3)])
        self.assertEqual(desk.say("send k"), [f"row a {a[2]}", "z days 1 2 known 2", f"row c {c[2]}", "w days 0 5 known 3"])
        self.assertEqual(desk.say("send k"), [])
        self.assertEqual(desk.say("lack k"), [])
        self.assertEqual(desk.say("fetch k"), ["parts 4"])
        desk = ready("find a x days 0 3 known 0", "let last 1", "keep k", "find a z days 1 2 known 2")
        check_fields(self, NotThinner, {"part": ("a", "x", 0, 3, 0)}, desk.say, "send k")
        self.assertEqual(desk.say("fetch k"), ["parts 1"])

    def test_as_many_rows_as_may_be(self):
        desk = ready(*[f"let days {at} {at + 1}" for at in range(16)])
        self.assertEqual(len(desk.say("rights")), 16)
        rows = [("let", ("days", at, at + 1)) for at in range(16)]
        check_fields(self, NoRights, {"found": rows + [("bar", ("now",))]}, desk.say, "bar now")
        check_fields(self, NoRights, {"found": rows + [("let", ("all",))]}, desk.say, "let all")
        self.assertEqual(len(desk.say("rights")), 16)
        self.assertEqual(desk.say("drop 15"), ["rows 15"])
        check_fields(self, NoNumber, {"found": 15}, desk.say, "drop 15")
        self.assertEqual(desk.say("bar now"), ["rows 16"])
        self.assertEqual(desk.say("rights")[15], "bar now")

    def test_in_a_great_frame(self):
        keys = "ka kb kc kd ke kf kg kh ki kj kk kl"
        desk = told_to([f"frame {keys} days 400 turns 400"])
        for turn in range(60):
            desk.say(f"find kl v{turn} days {turn} 400 known {turn}")
        desk.say("let ends 30 0")
        self.assertEqual(desk.say("ask kl 399 29"), ["v29 known 29"])
        check_fields(self, NotAllowed, {"point": ("kl", 399, 30), "place": 1}, desk.say, "ask kl 399 30")
        self.assertEqual(len(desk.say("thin")), 58)
        self.assertEqual(len(desk.say("paper")), len(desk.say("book")) - 1)
        desk.say("store 512")
        self.assertEqual(desk.say("save"), ["count 1"])
        self.assertEqual(desk.say("open"), [f"parts {len(desk.say('book')) - 1}"])


class Refused(unittest.TestCase):

    def test_no_lines(self):
        for desk in (Desk(), ready("find a x days 0 1 known 0")):
            before = outcome(desk.say, "book")
            for line in strange_things() + BAD:
                error = refusal(self, NoLine, desk.say, line)
                self.assertIs(error.line, line)
            self.assertEqual(outcome(desk.say, "book"), before)

    def test_without_a_frame(self):
        desk = Desk()
        for line, told in GOOD:
            if told[0] != "frame":
                check_fields(self, NoFrame, {"found": None}, desk.say, line)
        check_fields(self, NoFrame, {"found": ["a", "a"]}, desk.say, "frame a a days 0 turns 0")
        check_fields(self, NoFrame, {"found": 0}, desk.say, "frame a days 0 turns 401")
        check_fields(self, NoFrame, {"found": 401}, desk.say, "frame a days 1 turns 401")
        check_fields(self, NoFrame, {"found": None}, desk.say, "book")
        self.assertIs(type(refusal(self, NoFrame, desk.say, "frame a b a days 3 turns 3").found), list)
        self.assertEqual(desk.say("frame a b days 400 turns 1"), ["ok"])

    def test_a_frame_that_is_refused_changes_nothing(self):
        desk = ready("find a x days 0 1 known 0", "let all", "keep k", "store 5")
        for line in ("frame a a days 3 turns 3", "frame a days 999999999 turns 3", "frame a days 3 turns 0"):
            refusal(self, NoFrame, desk.say, line)
        self.assertEqual(desk.say("book"), ["frame b a c days 5 turns 4", "a x days 0 1 known 0"])
        self.assertEqual(desk.say("rights"), ["let all"])
        self.assertEqual(desk.say("fetch k"), ["parts 1"])
        self.assertEqual(desk.say("save"), ["count 1"])
        desk.say("frame a days 3 turns 3")
        refusal(self, NoName, desk.say, "fetch k")
        refusal(self, NoDisk, desk.say, "save")

    def test_findings(self):
        desk = ready("find a x days 1 3 known 2")
        for finding in (("q", "x", 0, 1, 0), ("a", "x", 1, 1, 0), ("a", "x", 0, 6, 0), ("a", "x", 0, 1, 4),
                        ("a", "x", 999999999, 999999999, 999999999), ("a", "y", 2, 1, 2)):
            check_fields(self, NoFinding, {"found": finding}, desk.say, "find {} {} days {} {} known {}".format(*finding))
        check_fields(self, Clash, {"at": 1, "other": 0}, desk.say, "find a y days 0 2 known 2")
        self.assertEqual(desk.say("book")[1:], ["a x days 1 3 known 2"])

    def test_rights_and_points(self):
        desk = ready("find a x days 0 5 known 0", "bar days 2 3", "let last 2")
        for point in (("q", 0, 0), ("a", 5, 0), ("a", 0, 4), ("a", 999999999, 0)):
            for word in ("ask", "read", "why"):
                check_fields(self, NoPoint, {"found": point}, desk.say, "{} {} {} {}".format(word, *point))
        check_fields(self, NotAllowed, {"point": ("a", 2, 3), "place": 0}, desk.say, "ask a 2 3")
        check_fields(self, NotAllowed, {"point": ("a", 1, 1), "place": 2}, desk.say, "ask a 1 1")
        self.assertEqual(desk.say("read a 2 3"), ["x known 0"])
        check_fields(self, NoNumber, {"found": 2}, desk.say, "drop 2")
        check_fields(self, NoKey, {"found": "q"}, desk.say, "ladder q 7")
        check_fields(self, NoNumber, {"found": 5}, desk.say, "ladder a 5")
        check_fields(self, NoKey, {"found": "q"}, desk.say, "forget q")

    def test_names_by_which_nothing_is_kept(self):
        desk = ready("find a x days 0 5 known 0", "keep k")
        for word in ("fetch", "pour", "lack", "send"):
            check_fields(self, NoName, {"found": "q"}, desk.say, f"{word} q")
        desk.say("forget a")
        desk.say("find a y days 4 5 known 0")
        check_fields(self, Clash, {"at": 1, "other": 0}, desk.say, "pour k")
        self.assertEqual(desk.say("book")[1:], ["a y days 4 5 known 0"])
        self.assertEqual(desk.say("lack k"), ["a y days 4 5 known 0"])
        check_fields(self, NotThinner, {"part": ("a", "x", 0, 5, 0)}, desk.say, "send k")

    def test_without_a_store(self):
        desk = ready("find a x days 0 5 known 0")
        for line in ("save", "save 3", "open", "open 3", "purge a", "purge q", "purge q 3", "bears a", "bears q"):
            check_fields(self, NoDisk, {"found": None}, desk.say, line)
        for many in (0, 3, 513, 999999999):
            check_fields(self, NoDisk, {"found": many}, desk.say, f"store {many}")
        check_fields(self, NoDisk, {"found": None}, desk.say, "save")
        desk.say("store 4")
        desk.say("save")
        refusal(self, NoDisk, desk.say, "store 3")
        self.assertEqual(desk.say("bears a"), ["2"])

    def test_a_dark_store(self):
        desk = ready("find a x days 0 5 known 0", "store 5", "save", "find b y days 0 1 known 0")
        check_fields(self, Full, {"many": 6}, told_to(["frame b a c days 5 turns 4", "store 5", *[
            f"find a x days {at} {at + 1} known {at}" for at in range(4)]]).say, "save")
        check_fields(self, Dark, {"many": 37}, desk.say, "save 37")
        for line in ("save", "save 3", "purge a", "purge q", "purge q 0"):
            check_fields(self, Dark, {"many": 37}, desk.say, line)
        self.assertEqual(desk.say("bears a"), ["2"])
        self.assertEqual(desk.say("bears b"), ["3"])
        check_fields(self, NoKey, {"found": "q"}, desk.say, "bears q")
        check_fields(self, Dark, {"many": 5}, desk.say, "open 5")
        self.assertEqual(len(desk.say("book")), 3)
        check_fields(self, Dark, {"many": 5}, desk.say, "save 99")
        self.assertEqual(desk.say("open 20"), ["parts 1"])
        self.assertEqual(desk.say("bears b"), [])
        check_fields(self, NoKey, {"found": "q"}, desk.say, "purge q")
        self.assertEqual(desk.say("purge a 40"), ["count 2"])
        self.assertEqual(desk.say("book")[1:], ["a x days 0 5 known 0"])


def some_line(chance):
    """A line that means something to a desk, most times."""
    key, name = chance.choice("bacbacq"), chance.choice(["k", "j", "k", "j", "keep"])
    day, turn = chance.randrange(5), chance.randrange(5)
    begin, end = sorted(chance.sample(range(6), 2))
    word = chance.choice(["find"] * 6 + [
        "forget", "forget", "let", "let", "bar", "drop", "rights", "boxes", "ask", "ask", "read", "why", "ladder", "book",
        "paper", "thin", "keep", "keep", "fetch", "pour", "pour", "lack", "send", "send", "store", "save", "save", "save",
        "open", "purge", "bears", "some"])
    if word == "find":
        return f"find {key} {chance.choice('xyz')} days {begin} {end} known {chance.randrange(4)}"
    if word in ("let", "bar"):
        return f"{word} {shown(some_told(chance, FRAME, 2))}"
    if word in ("ask", "read", "why"):
        return f"{word} {key} {day} {turn}"
    if word in ("keep", "fetch", "pour", "lack", "send"):
        return f"{word} {name}"
    if word in ("save", "open"):
        return chance.choice([word, f"{word} {chance.randrange(160)}", f"{word} {chance.randrange(60)}"])
    if word == "purge":
        return chance.choice([f"purge {key}", f"purge {key} {chance.randrange(120)}"])
    if word in ("bears", "forget"):
        return f"{word} {key}"
    if word == "some":
        return chance.choice(["frame b a c days 4 turns 3", "frame a days 0 turns 1", f"find a x days {end} {begin} known 0",
                              "fetch q", "pour q", "lack q", "send q", "store 3", "ladder a 5", "nothing"])
    return {"drop": f"drop {chance.randrange(6)}", "ladder": f"ladder {key} {day}",
            "store": f"store {chance.randrange(6, 13)}"}.get(word, word)


class Held(unittest.TestCase):

    def test_line_by_line_against_a_desk_by_hand(self):
        chance = random.Random(123)
        seen = {}
        for _ in range(60):
            desk, hand = Desk(), DeskByHand()
            for line in ["book", "frame b a c days 5 turns 4", "open"] + [some_line(chance) for _ in range(200)]:
                told = line_by_hand(line)
                if told is None:
                    refusal(self, NoLine, desk.say, line)
                    continue
                expected = outcome(hand.say, *told)
                found = outcome(desk.say, line)
                self.assertEqual(found, copied(expected), line)
                kind = (told[0], expected[0] if isinstance(expected, tuple) else "told")
                seen[kind] = seen.get(kind, 0) + 1
        for word, kinds in {
                "find": "told NoFinding Clash", "drop": "told NoNumber", "ask": "told NoPoint NotAllowed",
                "read": "told NoPoint", "why": "told NoPoint", "ladder": "told NoKey", "fetch": "told NoName",
                "pour": "told NoName Clash", "lack": "told NoName", "send": "told NoName NotThinner",
                "forget": "told NoKey", "store": "told NoDisk", "save": "told Dark Full NoDisk", "open": "told Dark NoDisk",
                "purge": "told Dark NoKey NoDisk", "bears": "told NoKey NoDisk", "frame": "told NoFrame"}.items():
            for kind in kinds.split():
                self.assertGreater(seen.get((word, kind), 0), 2, (word, kind))
