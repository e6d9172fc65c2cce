"""That all which the interface lists is defined where it is listed, with its arguments."""

import importlib
import inspect
import unittest

FUNCTIONS = {
    "words": ["is_whole(thing)", "is_within(thing, low, high)", "is_name(thing)", "is_value(thing)",
              "plain_number(thing, most)", "own_words()"],
    "frames": ["frame_of(told)", "same_frame(one, other)"],
    "runs": ["is_stretch(thing)", "is_runs(thing)", "runs_of(stretches)", "runs_by(numbers)",
             "joined_runs(one, other)", "common_runs(one, other)", "less_runs(one, other)", "how_many(runs)",
             "numbers_in(runs)", "has_number(runs, thing)"],
    "boxes": ["is_box(frame, thing)", "has_point(boxes, thing)", "box_with(boxes, thing)",
              "turns_at(boxes, key, day)", "days_with(boxes, key)", "how_many_points(boxes)"],
    "boxsets": ["boxes_of(frame, boxes)", "all_boxes(frame)", "is_tidy(frame, thing)",
                "joined_boxes(frame, one, other)", "common_boxes(frame, one, other)",
                "less_boxes(frame, one, other)", "lies_within(frame, one, other)", "keys_with(frame, boxes)",
                "first_point(frame, boxes)"],
    "boxtext": ["show_boxes(boxes)", "read_boxes(frame, text)"],
    "findings": ["is_finding(frame, thing)"],
    "books": ["book_of(told)", "same_book(one, other)"],
    "booktext": ["show_book(book)", "read_book(text)"],
    "rules": ["rule_of(told)", "held_by_all(frame, rules)", "held_by_some(frame, rules)"],
    "ruletext": ["read_rule(text)"],
    "lesser": ["beyond(frame, one, other)", "is_lesser(frame, one, other)", "are_alike(frame, one, other)",
               "idle_rows(frame, rights)", "telling_point(frame, rights, number)", "without_idle(frame, rights)"],
    "rightstext": ["show_rights(rights)", "read_rights(text)"],
    "stairs": ["stair_of(book, part)", "is_stair(book, part, thing)", "next_parts(book, part)",
               "is_next(book, part, thing)", "silent_boxes(book)"],
    "speaking": ["who_speaks(book, boxes)", "needed_days(book, part, boxes)", "quiet_days(book, part, boxes)",
                 "first_turns(book, part, boxes)", "ladder(book, key, day)"],
    "thinning": ["thin(book, boxes)", "is_thin(book, boxes, thing)"],
    "papers": ["paper_of(book, boxes)", "is_paper(book, boxes, thing)", "book_by(frame, paper)"],
    "papertext": ["show_paper(paper)", "read_paper(text)"],
    "pouring": ["poured(books)", "lacking(one, other)", "is_thinner(one, other)", "shared(one, other)",
                "without_parts(book, parts)"],
    "sources": ["sources(books)", "are_sources(books, thing)"],
    "lessening": ["poured_thin(books, boxes)", "lessened(book, one, other)", "lost_by(book, one, other)"],
    "checks": ["check_of(numbers)"],
    "pages": ["is_page(thing)", "blank_page()", "page_of(frame, finding)", "part_on(frame, thing)",
              "root_page(count, used)", "root_on(thing, many)"],
    "disks": ["disk_of(pages)"],
    "stores": ["store_at(frame, pages)"],
    "sending": ["check_for(frame, key, findings)", "key_checks(book)", "keys_unlike(book, checks)",
                "is_row(frame, thing)", "rows_for(book, told, boxes=None)", "put_in(book, rows)"],
    "sendtext": ["show_rows(rows)", "read_rows(frame, text)"],
    "forgetting": ["forgotten(book, key)", "forgotten_days(book, key, stretch)", "forget_in(store, key, power=None)",
                   "pages_with(frame, pages, key)"],
    "desklines": ["read_line(line)"],
}
OF_A_RULE = ["levels(self)", "points(self, frame)", "holds(self, frame, point)", "told(self)", "words(self)"]
CLASSES = {
    "frames": {"Frame": ["__init__(self, keys, days, turns)", "key_names(self)", "now(self)", "place_of(self, key)",
                         "is_point(self, thing)", "told(self)"]},
    "books": {"Book": ["__init__(self, frame, findings)", "parts(self)", "parts_of(self, key)",
                       "how_many_atoms(self)", "has_all(self, finding)", "read(self, point)", "speaker(self, point)",
                       "told(self)"]},
    "rules": {
        "Rule": [], "All": OF_A_RULE, "Now": OF_A_RULE,
        "Keyed": ["__init__(self, names)", *OF_A_RULE], "Days": ["__init__(self, begin, end)", *OF_A_RULE],
        "Turns": ["__init__(self, begin, end)", *OF_A_RULE], "Last": ["__init__(self, many)", *OF_A_RULE],
        "Ends": ["__init__(self, many, back)", *OF_A_RULE], "Both": ["__init__(self, one, other)", *OF_A_RULE],
        "Either": ["__init__(self, one, other)", *OF_A_RULE], "But": ["__init__(self, one, other)", *OF_A_RULE],
    },
    "rights": {"Rights": ["__init__(self, rows)", "rows(self)", "with_row(self, word, told)",
                          "without_row(self, number)", "allowed(self, frame)", "is_allowed(self, frame, point)",
                          "place_of_no(self, frame, point)", "ask(self, book, point)", "reader(self, book)",
                          "reasons(self, frame, point)", "are_reasons(self, frame, point, thing)"]},
    "disks": {"Power": ["__init__(self, many=None)", "left_over(self)", "written(self)"],
              "Disk": ["__init__(self, many)", "how_many(self)", "pages(self)", "page_at(self, number)",
                       "write(self, number, numbers, power=None)"]},
    "stores": {"Store": ["__init__(self, frame, many)", "is_dark(self)", "pages(self)", "open_again(self, power=None)",
                         "book_now(self)", "count_now(self)", "used_pages(self)", "save(self, book, power=None)",
                         "cost_of(self, book)", "pages_for(self, book)"]},
    "desk": {"Desk": ["__init__(self)", "say(self, line)"]},
}


def shape(function):
    return f"{function.__name__}{inspect.signature(function)}"


class Interface(unittest.TestCase):

    def test_functions(self):
        for file, shapes in FUNCTIONS.items():
            module = importlib.import_module(f"leastlore.{file}")
            for expected in shapes:
                with self.subTest(file=file, function=expected):
                    function = getattr(module, expected.partition("(")[0])
                    self.assertEqual(shape(function), expected)
                    self.assertEqual(function.__module__, module.__name__)

    def test_classes_have_their_methods_themselves(self):
        for file, classes in CLASSES.items():
            module = importlib.import_module(f"leastlore.{file}")
            for name, shapes in classes.items():
                kind = getattr(module, name)
                self.assertEqual(kind.__module__, module.__name__)
                for expected in shapes:
                    with self.subTest(kind=name, method=expected):
                        method = vars(kind)[expected.partition("(")[0]]
                        self.assertEqual(shape(method), expected)
