"""Point 57: rights as text."""

import random
import unittest

from leastlore.errors import NoText
from leastlore.rights import Rights
from leastlore.rightstext import read_rights, show_rights
from tests.rulemaking import FRAME, nested, some_told
from tests.test_ruletext import BAD
from tests.things import check_fields, strange_things

BAD_ROWS = ["", " ", "let", "let ", "bar ", "bar", "all", "Let all", "LET all", "allow all", "let  all", " let all",
            "let all ", "let\tall", "letall", "let let all", "let all bar now", "both ( all ) ( now )", "let:all",
            "let all\r", "'let' all"]


class Written(unittest.TestCase):

    def test_written_and_read(self):
        chance = random.Random(57)
        for many in list(range(17)) * 4:
            rows = [(chance.choice(["let", "bar"]), some_told(chance, FRAME, 4)) for _ in range(many)]
            text = show_rights(rights=Rights(rows))
            self.assertEqual(len(text.split("\n")), max(1, many))
            again = read_rights(text=text)
            self.assertIs(type(again), Rights)
            self.assertEqual(repr(again.rows()), repr(rows))
            self.assertEqual(show_rights(again), text)

    def test_plain_texts(self):
        rows = [("let", ("both", ("key", ("b", "a")), ("days", 3, 9))), ("bar", ("ends", 30, 90))]
        text = "let both ( key b a ) ( days 3 9 )\nbar ends 30 90"
        self.assertEqual(show_rights(Rights(rows)), text)
        self.assertEqual(read_rights(text).rows(), rows)
        self.assertEqual(show_rights(Rights([])), "")
        self.assertEqual(read_rights("").rows(), [])

    def test_the_first_row_that_cannot_stand(self):
        wrong = BAD_ROWS + [f"{word} {text}" for word in ("let", "bar") for text in BAD if "\n" not in text]
        for row in wrong:
            if row:
                check_fields(self, NoText, {"at": 0}, read_rights, row)
            check_fields(self, NoText, {"at": 1}, read_rights, f"let all\n{row}")
            check_fields(self, NoText, {"at": 2}, read_rights, f"let all\nbar now\n{row}\nlet\nbar")
            check_fields(self, NoText, {"at": 0}, read_rights, f"{row}\nlet all")

    def test_levels(self):
        text = show_rights(Rights([("let", nested(4))]))
        self.assertEqual(read_rights(text).rows(), [("let", nested(4))])
        check_fields(self, NoText, {"at": 0}, read_rights, text.replace("all", "both ( all ) ( all )"))

    def test_line_feeds_at_an_end(self):
        check_fields(self, NoText, {"at": 0}, read_rights, "\n")
        check_fields(self, NoText, {"at": 0}, read_rights, "\nlet all")
        check_fields(self, NoText, {"at": 1}, read_rights, "let all\n")
        check_fields(self, NoText, {"at": 1}, read_rights, "let all\n\nlet all")

    def test_the_seventeenth_row(self):
        rows = ["let all"] * 16
        self.assertEqual(len(read_rights("\n".join(rows)).rows()), 16)
        for last in ("let all", "bar", ""):
            check_fields(self, NoText, {"at": 16}, read_rights, "\n".join(rows + [last]))
        check_fields(self, NoText, {"at": 16}, read_rights, "\n".join(rows * 20))
        check_fields(self, NoText, {"at": 15}, read_rights, "\n".join(rows[:15] + ["bar", "let all"]))
        check_fields(self, NoText, {"at": 3}, read_rights, "\n".join(rows[:3] + ["bar"] + rows))

    def test_what_is_no_text(self):
        for thing in strange_things() + [["let all"], [], (), 0, Rights([])]:
            if not isinstance(thing, str):
                check_fields(self, NoText, {"at": 0}, read_rights, thing)
