"""That all which the interface lists is defined where it is listed, with its arguments."""

import importlib
import inspect
import unittest

FUNCTIONS = {
    "words": ["is_whole(thing)", "is_within(thing, low, high)", "is_name(thing)", "is_value(thing)",
              "plain_number(thing, most)", "own_words()"],
    "frames": ["frame_of(told)", "same_frame(one, other)"],
    "runs": ["is_stretch(thing)", "is_runs(thing)", "runs_of(stretches)", "runs_by(numbers)",
             "joined_runs(one, other)", "common_runs(one, other)", "less_runs(one, other)", "how_many(runs)",
             "numbers_in(runs)", "has_number(runs, thing)"],
    "boxes": ["is_box(frame, thing)", "has_point(boxes, thing)", "box_with(boxes, thing)",
              "turns_at(boxes, key, day)", "days_with(boxes, key)", "how_many_points(boxes)"],
    "boxsets": ["boxes_of(frame, boxes)", "all_boxes(frame)", "is_tidy(frame, thing)",
                "joined_boxes(frame, one, other)", "common_boxes(frame, one, other)",
                "less_boxes(frame, one, other)", "lies_within(frame, one, other)", "keys_with(frame, boxes)",
                "first_point(frame, boxes)"],
    "boxtext": ["show_boxes(boxes)", "read_boxes(frame, text)"],
    "findings": ["is_finding(frame, thing)"],
    "books": ["book_of(told)", "same_book(one, other)"],
    "booktext": ["show_book(book)", "read_book(text)"],
}
CLASSES = {
    "frames": {"Frame": ["__init__(self, keys, days, turns)", "key_names(self)", "now(self)", "place_of(self, key)",
                         "is_point(self, thing)", "told(self)"]},
    "books": {"Book": ["__init__(self, frame, findings)", "parts(self)", "parts_of(self, key)",
                       "how_many_atoms(self)", "has_all(self, finding)", "read(self, point)", "speaker(self, point)",
                       "told(self)"]},
}


def shape(function):
    return f"{function.__name__}{inspect.signature(function)}"


class Interface(unittest.TestCase):

    def test_functions(self):
        for file, shapes in FUNCTIONS.items():
            module = importlib.import_module(f"leastlore.{file}")
            for expected in shapes:
                with self.subTest(file=file, function=expected):
                    function = getattr(module, expected.partition("(")[0])
                    self.assertEqual(shape(function), expected)
                    self.assertEqual(function.__module__, module.__name__)

    def test_classes_have_their_methods_themselves(self):
        for file, classes in CLASSES.items():
            module = importlib.import_module(f"leastlore.{file}")
            for name, shapes in classes.items():
                kind = getattr(module, name)
                self.assertEqual(kind.__module__, module.__name__)
                for expected in shapes:
                    with self.subTest(kind=name, method=expected):
                        method = vars(kind)[expected.partition("(")[0]]
                        self.assertEqual(shape(method), expected)
