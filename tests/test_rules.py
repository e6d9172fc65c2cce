"""Points 41 to 46: rules, and of point 45 a rule's own words."""

import random
import unittest

from leastlore import rules
from leastlore.boxes import has_point
from leastlore.boxsets import all_boxes, is_tidy
from leastlore.errors import NoName, NoNumber, NoPoint, NoRule, NoStretch
from leastlore.frames import Frame
from leastlore.rules import (
    All, Both, But, Days, Either, Ends, Keyed, Last, Now, Rule, Turns, held_by_all, held_by_some, rule_of,
)
from tests.rulemaking import (
    FRAME, FRAMES, LEAVES, PAIRS, great_points, held_points, holds_by_hand, nested, not_told, some_told,
)
from tests.things import (
    GREAT, SIXTY, all_points, check_found, check_new_each_time, refusal, strange_things, tidy_of,
)

KINDS = [All, Now, Keyed, Days, Turns, Last, Ends, Both, Either, But]
NO_NUMBERS = [0, 401, -1, True, False, None, "1", [1], (1,), SIXTY, -SIXTY]


def some_rules():
    """A rule of each kind."""
    return [All(), Now(), Keyed(["b", "a"]), Days(1, 3), Turns(0, 2), Last(2), Ends(2, 1), Both(All(), Now()),
            Either(Now(), Days(0, 1)), But(All(), Now())]


class Points(unittest.TestCase):

    def check(self, frame, told):
        rule = rule_of(told)
        points = held_points(frame, told)
        self.assertEqual(rule.points(frame), tidy_of(frame, points), told)
        for point in all_points(frame):
            self.assertIs(rule.holds(frame, point), point in points, (told, point))

    def test_each_kind_one_by_one(self):
        for frame in FRAMES:
            for told in LEAVES:
                self.check(frame, told)

    def test_nested_to_four_levels(self):
        chance = random.Random(41)
        for levels in (2, 3, 4):
            for at in range(60):
                self.check(FRAMES[at % len(FRAMES)], some_told(chance, FRAMES[at % len(FRAMES)], levels))
        for word in PAIRS:
            for left in (True, False):
                self.check(FRAME, nested(4, word, left))

    def test_plain_answers(self):
        b, a = ("b", 0, 5, 0, 4), ("a", 0, 5, 0, 4)
        self.assertEqual(All().points(FRAME), [b, a])
        self.assertEqual(Now().points(FRAME), [("b", 0, 5, 3, 4), ("a", 0, 5, 3, 4)])
        self.assertEqual(Keyed(["a", "b", "c"]).points(FRAME), [b, a])
        self.assertEqual(Keyed(("c", "a")).points(FRAME), [a])
        self.assertEqual(Keyed(["c"]).points(FRAME), [])
        self.assertEqual(Days(3, 9).points(FRAME), [("b", 3, 5, 0, 4), ("a", 3, 5, 0, 4)])
        self.assertEqual(Days(5, 9).points(FRAME), [])
        self.assertEqual(Turns(1, 3).points(FRAME), [("b", 0, 5, 1, 3), ("a", 0, 5, 1, 3)])
        self.assertEqual(Turns(4, 5).points(FRAME), [])
        self.assertEqual(Turns(3, 400).points(FRAME), Now().points(FRAME))
        self.assertEqual(Last(3).points(FRAME), [("b", 0, 5, 1, 4), ("a", 0, 5, 1, 4)])
        self.assertEqual(Last(400).points(FRAME), all_boxes(FRAME))
        self.assertEqual(Ends(2, 0).points(Frame(["a"], 2, 7)), [
            ("a", 0, 2, 1, 2), ("a", 0, 2, 3, 4), ("a", 0, 2, 5, 6)])
        self.assertEqual(Ends(2, 4).points(Frame(["a"], 2, 7)), [("a", 0, 2, 5, 6)])
        self.assertEqual(Ends(8, 0).points(Frame(["a"], 2, 7)), [])
        self.assertEqual(Ends(1, 2).points(FRAME), [("b", 0, 5, 2, 4), ("a", 0, 5, 2, 4)])
        self.assertEqual(But(All(), Days(1, 4)).points(Frame(["a"], 5, 1)), [("a", 0, 1, 0, 1), ("a", 4, 5, 0, 1)])
        self.assertEqual(But(Now(), All()).points(FRAME), [])

    def test_new_each_time(self):
        for rule in some_rules():
            told = rule.told()
            check_new_each_time(self, rule.points, FRAME)
            self.assertEqual(rule.points(frame=FRAME), rule_of(told).points(Frame(["b", "a"], 5, 4)))
            self.assertEqual(rule.told(), told)

    def test_what_is_no_point(self):
        wrong = [("c", 0, 0), ("a", 5, 0), ("a", 0, 4), ["a", 0, 0], ("a", True, 0), ("a", 0, False), ("a", 0)]
        for rule in some_rules():
            for thing in wrong + strange_things():
                check_found(self, NoPoint, thing, rule.holds, FRAME, thing)
            self.assertIs(type(rule.holds(frame=FRAME, point=("a", 0, 0))), bool)

    def test_a_great_frame(self):
        chance = random.Random(43)
        for levels in (1, 1, 1, 2, 3, 4, 4):
            told = some_told(chance, GREAT, levels)
            rule = rule_of(told)
            boxes = rule.points(GREAT)
            self.assertIs(is_tidy(GREAT, boxes), True)
            for point in great_points(chance, 60):
                held = holds_by_hand(GREAT, told, point)
                self.assertIs(rule.holds(GREAT, point), held)
                self.assertIs(has_point(boxes, point), held)

    def test_the_finest_rule_of_a_great_frame(self):
        comb = Either(Both(Ends(2, 0), Days(0, 399)), Both(Days(399, 400), Last(1)))
        boxes = comb.points(GREAT)
        self.assertEqual(len(boxes), 12 * 201)
        self.assertEqual(boxes[0], ("ka", 0, 399, 1, 2))
        self.assertEqual(boxes[-1], ("kl", 399, 400, 399, 400))


class Made(unittest.TestCase):

    def test_there_are_ten_kinds_straight_under_rule(self):
        kinds = [thing for thing in vars(rules).values() if isinstance(thing, type) and issubclass(thing, Rule)]
        self.assertEqual(set(kinds), {Rule, *KINDS})
        for kind in KINDS:
            self.assertEqual(kind.__bases__, (Rule,))
            for name in ("levels", "points", "holds", "told", "words"):
                self.assertIn(name, vars(kind))

    def test_levels(self):
        for told in LEAVES:
            self.assertEqual(rule_of(told).levels(), 1)
        for word in PAIRS:
            for left in (True, False):
                self.assertEqual([rule_of(nested(levels, word, left)).levels() for levels in (1, 2, 3, 4)], [1, 2, 3, 4])
        self.assertEqual(Both(rule_of(nested(2)), rule_of(nested(3))).levels(), 4)

    def test_names_by_name(self):
        self.assertEqual(Keyed(names=["a"]).told(), ("key", ("a",)))
        self.assertEqual(Days(begin=0, end=400).told(), ("days", 0, 400))
        self.assertEqual(Turns(begin=399, end=400).told(), ("turns", 399, 400))
        self.assertEqual(Last(many=400).told(), ("last", 400))
        self.assertEqual(Ends(many=1, back=399).told(), ("ends", 1, 399))
        for kind, word in ((Both, "both"), (Either, "either"), (But, "but")):
            self.assertEqual(kind(one=All(), other=Now()).told(), (word, ("all",), ("now",)))

    def test_names_are_kept_as_a_copy_in_their_order(self):
        names = ["b", "a"]
        rule = Keyed(names)
        names.append("c")
        names[0] = "z"
        self.assertEqual(rule.told(), ("key", ("b", "a")))
        self.assertEqual(rule.words(), "key b a")
        self.assertIs(rule.holds(FRAME, ("b", 0, 0)), True)

    def test_refused_names(self):
        for thing in [[], (), list("abcdefghijklm"), ["A"] * 13, "a", {"a": 1}, None]:
            check_found(self, NoRule, thing, Keyed, thing)
        for thing in strange_things():
            if not isinstance(thing, (list, tuple)) or not thing:
                check_found(self, NoRule, thing, Keyed, thing)
            check_found(self, NoName, thing, Keyed, [thing])
            check_found(self, NoName, thing, Keyed, ("a", "a", thing, "B"))
        for names in (["a", "a"], ("a", "b", "a"), ["b"] + list("abcdefghijk")):
            check_found(self, NoRule, names, Keyed, names)
        for word in ("all", "ask", "abcdefghi", "a b", "a7", ""):
            check_found(self, NoName, word, Keyed, ["a", word, "a"])
        self.assertEqual(Keyed(tuple("abcdefghijkl")).told(), ("key", tuple("abcdefghijkl")))

    def test_refused_stretches(self):
        wrong = [(3, 3), (4, 3), (-1, 2), (0, 401), (True, 2), (0, True), (0, "1"), ([0], [1]), (None, None),
                 ((0, 1), 2), (0, SIXTY)] + [(thing, 1) for thing in strange_things()]
        for begin, end in wrong:
            for kind in (Days, Turns):
                error = refusal(self, NoStretch, kind, begin, end)
                self.assertIs(type(error.found), tuple)
                self.assertIs(error.found[0], begin)
                self.assertIs(error.found[1], end)
                self.assertEqual(len(error.found), 2)

    def test_refused_numbers(self):
        for thing in NO_NUMBERS + strange_things():
            check_found(self, NoNumber, thing, Last, thing)
            check_found(self, NoNumber, thing, Ends, thing, 0)
            check_found(self, NoNumber, thing, Ends, thing, "back")
        for thing in [400, -1, True, False, None, "0", [0], SIXTY] + strange_things():
            check_found(self, NoNumber, thing, Ends, 1, thing)

    def test_refused_rules(self):
        four = [rule_of(nested(4)), rule_of(nested(4, "but", False))]
        wrong = four + [("all",), "all", All, Rule, ["all"], [All()], (All(),)] + strange_things()
        for kind in (Both, Either, But):
            for thing in wrong:
                check_found(self, NoRule, thing, kind, thing, All())
                check_found(self, NoRule, thing, kind, All(), thing)
                check_found(self, NoRule, thing, kind, thing, None)
            self.assertEqual(kind(rule_of(nested(3)), rule_of(nested(3))).levels(), 4)

    def test_what_is_refused_changes_nothing(self):
        rule = rule_of(nested(4))
        refusal(self, NoRule, Both, rule, rule)
        self.assertEqual(rule.told(), nested(4))


class Told(unittest.TestCase):

    def test_made_again(self):
        chance = random.Random(44)
        many = LEAVES + [some_told(chance, FRAME, 4) for _ in range(100)] + [nested(4, word) for word in PAIRS]
        for told in many:
            rule = rule_of(told=told)
            self.assertEqual(rule.told(), told)
            self.assertEqual(repr(rule.told()), repr(told))
            self.assertEqual(rule_of(rule.told()).points(FRAME), rule.points(FRAME))

    def test_each_kind(self):
        self.assertEqual([rule.told() for rule in some_rules()], [
            ("all",), ("now",), ("key", ("b", "a")), ("days", 1, 3), ("turns", 0, 2), ("last", 2), ("ends", 2, 1),
            ("both", ("all",), ("now",)), ("either", ("now",), ("days", 0, 1)), ("but", ("all",), ("now",))])
        for kind, rule in zip(KINDS, some_rules()):
            self.assertIs(type(rule_of(rule.told())), kind)

    def test_what_no_rule_tells_is_refused_whole(self):
        for thing in not_told():
            check_found(self, NoRule, thing, rule_of, thing)
            for word in PAIRS:
                for whole in ((word, thing, ("all",)), (word, ("all",), thing), ("but", (word, thing, thing), ("now",))):
                    check_found(self, NoRule, whole, rule_of, whole)
        for rule in some_rules():
            check_found(self, NoRule, rule, rule_of, rule)

    def test_words(self):
        self.assertEqual([rule.words() for rule in some_rules()], [
            "all", "now", "key b a", "days 1 3", "turns 0 2", "last 2", "ends 2 1", "both ( all ) ( now )",
            "either ( now ) ( days 0 1 )", "but ( all ) ( now )"])
        self.assertEqual(Both(But(All(), Ends(30, 90)), Keyed(["a", "b"])).words(),
                         "both ( but ( all ) ( ends 30 90 ) ) ( key a b )")


class Several(unittest.TestCase):

    def test_against_points_one_by_one(self):
        chance = random.Random(46)
        for at in range(80):
            frame = FRAMES[at % len(FRAMES)]
            many = [some_told(chance, frame, 3) for _ in range(chance.randrange(5))]
            points = [held_points(frame, told) for told in many]
            every = set(all_points(frame)).intersection(*points)
            made = [rule_of(told) for told in many]
            self.assertEqual(held_by_all(frame, made), tidy_of(frame, every))
            self.assertEqual(held_by_some(frame, tuple(made)), tidy_of(frame, set().union(*points)))

    def test_none_and_twenty(self):
        for none in ([], ()):
            self.assertEqual(held_by_all(frame=FRAME, rules=none), all_boxes(FRAME))
            self.assertEqual(held_by_some(frame=FRAME, rules=none), [])
        twenty = [Days(at, 400 - at) for at in range(20)]
        self.assertEqual(held_by_all(GREAT, twenty)[0], ("ka", 19, 381, 0, 400))
        self.assertEqual(held_by_some(GREAT, twenty), all_boxes(GREAT))
        self.assertEqual(len(held_by_some(GREAT, [Ends(2, 0)] * 20)), 12 * 200)

    def test_refused(self):
        wrong = strange_things() + [("all",), All, Rule, "all"]
        for call in (held_by_all, held_by_some):
            for thing in strange_things() + [All(), "all", {All(): 1}]:
                if not isinstance(thing, (list, tuple)):
                    check_found(self, NoRule, thing, call, FRAME, thing)
            for thing in wrong:
                check_found(self, NoRule, thing, call, FRAME, [thing])
                check_found(self, NoRule, thing, call, FRAME, (All(), rule_of(nested(4)), thing, None))

    def test_new_each_time_and_nothing_changed(self):
        made = [All(), Days(0, 2)]
        for call in (held_by_all, held_by_some):
            check_new_each_time(self, call, FRAME, made)
            check_new_each_time(self, call, FRAME, [])
        self.assertEqual([rule.told() for rule in made], [("all",), ("days", 0, 2)])
