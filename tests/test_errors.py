"""Points 6 and 16: the refusals."""

import unittest

from leastlore import errors
from tests.things import strange_things

FIELDS = {
    "NoNumber": ["found"], "NoName": ["found"], "NoFrame": ["found"], "NoPoint": ["found"],
    "NoStretch": ["found"], "NoBoxes": ["found"], "NoFinding": ["found"], "Clash": ["at", "other"],
    "NoBook": ["found"], "NoRule": ["found"], "NoRights": ["found"], "NoText": ["at"],
    "NotAllowed": ["point", "place"], "NoPart": ["found"], "NoPaper": ["found"], "Unlike": ["found"],
    "NotThinner": ["part"], "NoDisk": ["found"], "NoPage": ["found"], "Rotten": ["page"],
    "Full": ["many"], "Dark": ["many"], "NoKey": ["found"], "NoRow": ["found"], "NoLine": ["line"],
}


class Errors(unittest.TestCase):

    def test_lore_error_stands_under_value_error_and_is_made_of_a_text(self):
        self.assertEqual(errors.LoreError.__bases__, (ValueError,))
        self.assertEqual(str(errors.LoreError("no such thing")), "no such thing")

    def test_each_refusal_stands_straight_under_lore_error(self):
        for name in FIELDS:
            with self.subTest(name=name):
                kind = getattr(errors, name)
                self.assertEqual(kind.__bases__, (errors.LoreError,))
                self.assertEqual(kind.__module__, "leastlore.errors")

    def test_there_are_no_other_ones(self):
        kinds = [name for name, thing in vars(errors).items() if isinstance(thing, type)]
        self.assertEqual(sorted(kinds), sorted([*FIELDS, "LoreError"]))

    def test_each_keeps_the_very_things_by_place_and_by_name(self):
        for name, fields in FIELDS.items():
            kind = getattr(errors, name)
            for thing in strange_things():
                given = [[thing, at] for at in range(len(fields))]
                by_place = kind(*given)
                by_name = kind(**dict(zip(fields, given)))
                for field, kept in zip(fields, given):
                    self.assertIs(getattr(by_place, field), kept)
                    self.assertIs(getattr(by_name, field), kept)
                single = kind(*[thing] * len(fields))
                self.assertTrue(all(getattr(single, field) is thing for field in fields))

    def test_what_is_kept_is_no_copy(self):
        kept = [1, [2]]
        error = errors.NoRow(kept)
        kept[1].append(3)
        self.assertEqual(error.found, [1, [2, 3]])

    def test_made_of_as_many_things_as_fields(self):
        for name, fields in FIELDS.items():
            kind = getattr(errors, name)
            with self.assertRaises(TypeError):
                kind(*[0] * (len(fields) + 1))
            with self.assertRaises(TypeError):
                kind()

    def test_each_is_caught_as_lore_error_and_value_error(self):
        for name, fields in FIELDS.items():
            for caught in (errors.LoreError, ValueError):
                with self.assertRaises(caught):
                    raise getattr(errors, name)(*[None] * len(fields))
