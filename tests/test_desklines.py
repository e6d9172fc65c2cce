"""Points 121 and 122: the lines that a desk takes, read."""

import random
import re
import unittest

from leastlore.desklines import read_line
from leastlore.errors import NoLine, NoText
from leastlore.ruletext import read_rule
from leastlore.words import own_words
from tests.rulemaking import FRAME, some_told
from tests.things import check_fields, refusal, strange_things

NUMBER = "(0|[1-9][0-9]{0,8})"
NAME = "([a-z]{1,8})"
VALUE = "([a-z0-9]{1,12})"

# How lines are written, by the words of point 121, but frames, findings and rows of rights.
PLAIN = [
    "drop N", "rights", "boxes", "ask K N N", "read K N N", "why K N N", "ladder K N", "book", "paper", "thin", "keep K",
    "fetch K", "pour K", "lack K", "send K", "forget K", "store N", "save", "save N", "open", "open N", "purge K",
    "purge K N", "bears K",
]

GOOD = [
    ("frame a days 1 turns 1", ("frame", ("a",), 1, 1)),
    ("frame bb a zzzzzzzz days 400 turns 0", ("frame", ("bb", "a", "zzzzzzzz"), 400, 0)),
    ("frame a a days 999999999 turns 7", ("frame", ("a", "a"), 999999999, 7)),
    ("frame " + " ".join("abcdefghijkl") + " days 3 turns 4", ("frame", tuple("abcdefghijkl"), 3, 4)),
    ("find a red days 0 5 known 2", ("find", ("a", "red", 0, 5, 2))),
    ("find a days days 9 5 known 999999999", ("find", ("a", "days", 9, 5, 999999999))),
    ("find row 0123456789ab days 0 0 known 0", ("find", ("row", "0123456789ab", 0, 0, 0))),
    ("let all", ("let", ("all",))), ("bar now", ("bar", ("now",))), ("let key a b", ("let", ("key", ("a", "b")))),
    ("bar both ( days 3 9 ) ( last 7 )", ("bar", ("both", ("days", 3, 9), ("last", 7)))),
    ("let but ( all ) ( ends 30 90 )", ("let", ("but", ("all",), ("ends", 30, 90)))),
    ("drop 0", ("drop", 0)), ("drop 999999999", ("drop", 999999999)), ("rights", ("rights",)), ("boxes", ("boxes",)),
    ("ask a 0 3", ("ask", "a", 0, 3)), ("read bb 12 400", ("read", "bb", 12, 400)), ("why zz 7 0", ("why", "zz", 7, 0)),
    ("ladder a 999999999", ("ladder", "a", 999999999)), ("book", ("book",)), ("paper", ("paper",)), ("thin", ("thin",)),
    ("keep old", ("keep", "old")), ("keep keep", ("keep", "keep")), ("fetch book", ("fetch", "book")),
    ("pour pour", ("pour", "pour")), ("lack a", ("lack", "a")), ("send save", ("send", "save")),
    ("forget a", ("forget", "a")), ("store 512", ("store", 512)), ("store 0", ("store", 0)), ("save", ("save",)),
    ("save 3", ("save", 3)), ("open", ("open",)), ("open 0", ("open", 0)), ("purge a", ("purge", "a")),
    ("purge a 40", ("purge", "a", 40)), ("bears kept", ("bears", "kept")),
]

BAD = [
    "", " ", "\n", "frame", "frame days 3 turns 4", "frame a", "frame a days 3", "frame a days 3 turns", "frame a b",
    "frame a turns 3 days 4", "frame a days 3 turns 4 5", "frame a days 3 turns 4 ", "frame a days 03 turns 4",
    "frame a days 3 turns 1000000000", "frame a days 1000000000 turns 3", "frame a days -1 turns 3", "frame all days 3 turns 4",
    "frame days days 3 turns 4", "frame a turns days 3 turns 4", "frame A days 3 turns 4", "frame abcdefghi days 3 turns 4",
    "frame  a days 3 turns 4", "frame a  days 3 turns 4", "frame " + " ".join("abcdefghijklm") + " days 3 turns 4",
    "find a red days 0 5 known", "find a red days 0 5", "find a red 0 5 2", "find a red days 0 5 known 2 2",
    "find a red days 0 5 knew 2", "find a red day 0 5 known 2", "find a Red days 0 5 known 2", "find A red days 0 5 known 2",
    "find key red days 0 5 known 2", "find a abcdefghijklm days 0 5 known 2", "find a  days 0 5 known 2",
    "find a red days 00 5 known 2", "find a red days 0 5 known 02", "find a red days 0 1000000000 known 2",
    "find a red days 0 -5 known 2", "find red days 0 5 known 2", "let", "bar", "let ", "let  all", "let all ", "let nothing",
    "let all all", "bar key", "bar days 3 3", "bar last 0", "bar last 401", "let both ( all ) ( all", "let rule all",
    "let all\nbar all", "LET all", "let bar all", "drop", "drop a", "drop 00", "drop 01", "drop 1000000000", "drop -1",
    "drop 1 2", "drop 1 ", "rights 1", "rights ", " rights", "Rights", "right", "boxes a", "ask a 0", "ask a", "ask",
    "ask a 0 3 4", "ask a 0 a", "ask 0 0 3", "ask all 0 3", "ask a 00 3", "ask a 0 1000000000", "ask a  0 3", "ask  a 0 3",
    "read a 0", "why a", "why", "ladder a", "ladder a 0 0", "ladder 0", "book a", "paper 1", "thin 1", "keep", "keep a b",
    "keep 1", "keep all", "keep Old", "keep abcdefghi", "fetch", "pour", "lack", "send", "forget", "forget a b", "forget 1",
    "store", "store a", "store 1 2", "store 01", "save a", "save 1 2", "save 01", "save 1000000000", "open a", "open 1 2",
    "open 00", "purge", "purge 3", "purge a a", "purge a 1 2", "purge a 01", "bears", "bears 1", "bears a b", "hello", "N",
    "drop N", "ask KEY 0 0", "find KEY VALUE days N N known N", "rights\n", "\nrights", "save\n", "save 3\n", "drop 1\n",
    "keep a\n", "row a 1", "all", "now",
]


def line_by_hand(line):
    """What a line tells, by the words of points 121 and 122; None, where it is none."""
    def things(form, shapes):
        pattern = form.replace("K", NAME).replace("V", VALUE).replace("N", NUMBER)
        found = re.fullmatch(pattern, line)
        if found is None or any(shape == "K" and thing in own_words() for shape, thing in zip(shapes, found.groups())):
            return None
        return tuple(int(thing) if shape == "N" else thing for shape, thing in zip(shapes, found.groups()))
    for form in PLAIN:
        told = things(form, re.findall("[KN]", form))
        if told is not None:
            return (form.split(" ")[0], *told)
    told = things("find K V days N N known N", "KVNNN")
    if told is not None:
        return ("find", told)
    for many in range(1, 13):
        told = things("frame" + " K" * many + " days N turns N", "K" * many + "NN")
        if told is not None:
            return ("frame", told[:many], *told[many:])
    if line[:4] in ("let ", "bar "):
        try:
            return (line[:3], read_rule(line[4:]).told())
        except NoText:
            return None
    return None


def changed_lines(line):
    """Lines that lack a word of one, or have one more, or another one, or other blanks."""
    words = line.split(" ")
    for at in range(len(words)):
        yield " ".join(words[:at] + words[at + 1:])
        for word in ("a", "7", "0", "", words[at], "days", "(", "1000000000", "00"):
            yield " ".join(words[:at] + [word] + words[at:])
            yield " ".join(words[:at] + [word] + words[at + 1:])
        yield " ".join(words[:at] + [words[at].upper()] + words[at + 1:])
        yield " ".join(words[:at] + ["0" + words[at]] + words[at + 1:])
        yield " ".join(words[:at] + [words[at] + "\n"] + words[at + 1:])
    yield line + " 3"
    yield line + " a"
    yield line + " "


class Lines(unittest.TestCase):

    def test_every_line(self):
        self.assertEqual({told[0] for _, told in GOOD},
                         {form.split(" ")[0] for form in PLAIN} | {"frame", "find", "let", "bar"})
        for line, told in GOOD:
            self.assertEqual(line_by_hand(line), told)
            self.assertEqual(read_line(line), told)
            self.assertEqual(repr(read_line(line=line)), repr(told))
            self.assertIs(type(read_line(line)), tuple)

    def test_no_lines(self):
        for line in BAD:
            self.assertIsNone(line_by_hand(line), line)
            check_fields(self, NoLine, {"line": line}, read_line, line)

    def test_changed_lines(self):
        lines = 0
        for good, _ in GOOD:
            for line in changed_lines(good):
                told = line_by_hand(line)
                if told is None:
                    self.assertIs(refusal(self, NoLine, read_line, line).line, line)
                else:
                    lines += 1
                    self.assertEqual(read_line(line), told)
        self.assertGreater(lines, 50)

    def test_rules_by_chance(self):
        chance = random.Random(122)
        for _ in range(200):
            told = some_told(chance, FRAME, 4)
            word = chance.choice(["let", "bar"])
            line = f"{word} {shown(told)}"
            self.assertEqual(read_line(line), (word, told))
            cut = line[:chance.randrange(len(line))]
            self.assertEqual(outcome(cut), line_by_hand(cut))

    def test_numbers(self):
        for number in (0, 1, 9, 10, 399, 400, 401, 99999999, 100000000, 999999999):
            self.assertEqual(read_line(f"drop {number}"), ("drop", number))
            self.assertEqual(read_line(f"purge a {number}"), ("purge", "a", number))
            self.assertIs(type(read_line(f"save {number}")[1]), int)
        for number in ("1000000000", "1000000001", "9999999999", "9" * 60, "9" * 5000, "+1", "1.", "1_0", "\u0661", "0x1"):
            refusal(self, NoLine, read_line, f"drop {number}")
            refusal(self, NoLine, read_line, f"ask a 0 {number}")

    def test_any_thing(self):
        for thing in strange_things() + [b"rights", ["rights"], ("rights",), 7, read_line, ("save", 3), {"save": 3}]:
            error = refusal(self, NoLine, read_line, thing)
            self.assertIs(error.line, thing)


def shown(told):
    """A rule's text by the words of point 45."""
    word, *things = told
    if word in ("both", "either", "but"):
        return f"{word} ( {shown(things[0])} ) ( {shown(things[1])} )"
    if word == "key":
        return " ".join([word, *things[0]])
    return " ".join([word, *map(str, things)])


def outcome(line):
    try:
        return read_line(line)
    except NoLine:
        return None
