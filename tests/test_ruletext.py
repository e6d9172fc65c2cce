"""Point 45: rules, read from text."""

import random
import re
import unittest

from leastlore.errors import NoText
from leastlore.rules import rule_of
from leastlore.ruletext import read_rule
from leastlore.words import own_words
from tests.rulemaking import FRAME, LEAVES, PAIRS, nested, some_told
from tests.things import check_fields, refusal, strange_things

WORDS = ["all", "now", "key", "days", "turns", "last", "ends", "both", "either", "but", "(", ")", "a", "b", "0", "1",
         "399", "400", "401", "", "01", "A", "let", "all\n", "((", "-1"]

# Text, and the number of the first word that can't stand.
BAD = {
    "": 0, " ": 0, "  ": 0, "a": 0, "(": 0, ")": 0, "All": 0, "all\n": 0, "\nall": 0, "all\nnow": 0, "let all": 0,
    "( all )": 0, "all all": 1, "all ": 1, "all  ": 1, " all": 0, "now now": 1, "now (": 1, "all )": 1, "0": 0,
    "key": 1, "key ": 1, "key  a": 1, "key a ": 2, "key a  b": 2, "key A": 1, "key a A": 2, "key a a": 2,
    "key a b a": 3, "key all": 1, "key a all": 2, "key a (": 2, "key a )": 2, "key a\n": 1, "key abcdefghi": 1,
    "key 7": 1, "key ( a )": 1, "key a b c d e f g h i j k l m": 13, "key a b c d e f g h i j k l ": 13,
    "key a b c d e f g h i j k l all": 13, "key a,b": 1, "days": 1, "days 3": 2, "days 3 ": 2, "days 3 3": 2,
    "days 3 2": 2, "days 400 401": 1, "days 400": 1, "days 399 401": 2, "days 0 401": 2, "days 03 4": 1,
    "days 3 04": 2, "days 3 4 5": 3, "days 3 4 ": 3, "days  3 4": 1, "days -1 4": 1, "days +1 4": 1, "days a 4": 1,
    "days 3 4\n": 2, "days 3\n4": 1, "days 0 " + "9" * 5000: 2, "days 00 1": 1, "days 1.0 2": 1, "turns 5 5": 2,
    "turns 400": 1, "turns x": 1, "turns": 1, "turns 0 1 2": 3, "last": 1, "last 0": 1, "last 401": 1, "last 07": 1,
    "last 7 7": 2, "last ": 1, "last \u0667": 1, "last now": 1, "ends": 1, "ends 30": 2, "ends 0 0": 1,
    "ends 401 0": 1, "ends 400 400": 2, "ends 1 -1": 2, "ends 1 00": 2, "ends 1 0 0": 3, "ends 30 ": 2, "both": 1,
    "both all": 1, "both (": 2, "both ( all": 3, "both ( all )": 4, "both ( all ) (": 5, "both ( all ) ( now": 6,
    "both ( all ) all": 4, "both ( all ) ( now ) )": 7, "both ( all ) ( now ) ": 7, "both (all) (now)": 1,
    "both ( ) ( all )": 2, "both ( all all ) ( now )": 3, "both ( all ( now )": 3, "both  ( all ) ( now )": 1,
    "both ( all ) ( now ) ( all )": 7, "both ( key ) ( all )": 3, "both ( key a ( all )": 4, "both ( key a": 4,
    "both ( key a ) ( key a": 8, "both ( days 3 ) ( all )": 4, "but ( all ) ( last 0 )": 6, "either ) all": 1,
    "either ( all ) ( but": 6, "either ( all ) ( but ( now ) ( all )": 12, "neither ( all ) ( now )": 0,
    "both ( both ( both ( both": 6, "but ( now ) ( but ( now ) ( but ( now ) ( but": 15,
    "both ( either ( but ( both ( all ) ( all ) ) ( all ) ) ( all ) ) ( all )": 6, "key find": 1, "key a known": 2,
}


def is_written(words, levels=4):
    """Whether words are those of a rule of at most so many levels, by the words of points 42 and 45."""
    if words in (["all"], ["now"]):
        return True
    if words[:1] == ["key"]:
        names = words[1:]
        return (1 <= len(names) <= 12 and len(set(names)) == len(names)
                and all(re.fullmatch("[a-z]{1,8}", name) and name not in own_words() for name in names))
    if words[:1] and words[0] in PAIRS and levels > 1 and words[1:2] == ["("] and words[-1] == ")":
        return any(words[at:at + 2] == [")", "("] and is_written(words[2:at], levels - 1)
                   and is_written(words[at + 2:-1], levels - 1) for at in range(2, len(words)))
    if not all(re.fullmatch("0|[1-9][0-9]{0,3}", word) for word in words[1:]):
        return False
    numbers = [int(word) for word in words[1:]]
    if words[:1] in (["days"], ["turns"]):
        return len(numbers) == 2 and numbers[0] < numbers[1] <= 400
    if words[:1] == ["last"]:
        return len(numbers) == 1 and 1 <= numbers[0] <= 400
    return words[:1] == ["ends"] and len(numbers) == 2 and 1 <= numbers[0] <= 400 and numbers[1] <= 399


def endings():
    """Words that may end a rule's text, wherever it was left."""
    closing = [[]]
    for _ in range(3):
        closing += [words + more for words in closing for more in ([")"], [")", "(", "all", ")"])]
    inner = ["(", "all", ")", "(", "all", ")"]
    starts = [[], ["all"], ["a"], ["q"], ["400"], ["1"], ["0", "400"], ["1", "0"], inner, inner[1:], inner[2:], inner[3:]]
    return [start + words for start in starts for words in closing]


ENDINGS = endings()


def first_wrong(words):
    """The number of the first word that can't stand, by looking for rules that go on so; None where all is well."""
    for many in range(1, len(words) + 1):
        if not any(is_written(words[:many] + more) for more in ENDINGS):
            return many - 1
    return None if is_written(words) else len(words)


class Reading(unittest.TestCase):

    def check_written(self, told):
        text = rule_of(told).words()
        self.assertTrue(is_written(text.split(" ")))
        rule = read_rule(text=text)
        self.assertEqual(rule.told(), told)
        self.assertEqual(rule.words(), text)
        self.assertEqual(rule.points(FRAME), rule_of(told).points(FRAME))

    def test_written_and_read(self):
        chance = random.Random(45)
        for told in LEAVES + [some_told(chance, FRAME, 4) for _ in range(150)]:
            self.check_written(told)
        for word in PAIRS:
            for left in (True, False):
                self.check_written(nested(4, word, left))

    def test_edges_that_stand(self):
        for text in ("days 399 400", "days 0 400", "turns 0 1", "last 400", "last 1", "ends 400 399", "ends 1 0",
                     "key a b c d e f g h i j k l", "key keys alls abcdefgh", "both ( key a b ) ( key a )"):
            self.assertEqual(read_rule(text).words(), text)

    def test_the_first_word_that_cannot_stand(self):
        for text, at in BAD.items():
            check_fields(self, NoText, {"at": at}, read_rule, text)
            self.assertEqual(first_wrong(text.split(" ")), at, text)

    def test_words_by_chance(self):
        chance = random.Random(451)
        for _ in range(400):
            words = rule_of(some_told(chance, FRAME, chance.randrange(1, 5))).words().split(" ")
            kind = chance.randrange(4)
            at = chance.randrange(len(words))
            if kind == 0:
                words = words[:at]
            elif kind == 1:
                words[at] = chance.choice(WORDS)
            elif kind == 2:
                words.insert(at, chance.choice(WORDS))
            else:
                del words[at]
            if words:
                self.check_like_search(words)

    def test_few_words_by_chance(self):
        chance = random.Random(452)
        for _ in range(500):
            self.check_like_search([chance.choice(WORDS) for _ in range(chance.randrange(1, 6))])

    def check_like_search(self, words):
        wrong = first_wrong(words)
        text = " ".join(words)
        if wrong is None:
            self.assertEqual(read_rule(text).words(), text)
        else:
            self.assertEqual(refusal(self, NoText, read_rule, text).at, wrong, text)

    def test_what_is_no_text(self):
        for thing in strange_things() + [["all"], ("all",), 0, rule_of(("all",)), {"all": 1}]:
            if not isinstance(thing, str):
                check_fields(self, NoText, {"at": 0}, read_rule, thing)

    def test_long_texts(self):
        for text, at in (("all " * 4000, 1), ("both ( " * 2800, 6), (" " * 20000, 0), ("key " + "a " * 9000, 2),
                         ("( " * 9000, 0), ("days " + "0 " * 9000, 2)):
            check_fields(self, NoText, {"at": at}, read_rule, text)
