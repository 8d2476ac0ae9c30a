"""The names, arguments and classes that the interface lists, each in the body of its own file or class."""

import importlib
import inspect
import unittest

METER_METHODS = {
    "__init__": "(self, limit)",
    "room": "(self, moment, group, cost)",
    "earliest": "(self, moment, group, cost)",
    "let": "(self, moment, group, cost, key)",
    "released": "(self, key, moment)",
    "state_of": "(self, moment)",
    "twin": "(self)",
}

FUNCTIONS = {
    "books": {
        "is_name": "(text)", "is_key": "(text)", "check_request": "(key, group, cost)", "check_moment": "(moment)",
        "check_limit": "(limit)", "check_entries": "(entries)", "looks_at": "(limit, group)",
    },
    "notation": {
        "format_limit": "(limit)", "format_book": "(book)", "format_entry": "(entry)", "format_entries": "(entries)",
        "parse_book": "(text)", "parse_entries": "(text)", "format_answer": "(answer)",
    },
    "meters": {"meter_for": "(limit)", "meter_from": "(limit, state, moment)"},
    "reach": {"most_within": "(limit, moments)", "fullest_row": "(limit, moments)"},
    "idle": {
        "idle_beside": "(limit, other)", "parting_row": "(limit, other)", "check_parting": "(limit, other, row)",
    },
    "keeper": {"keeper_of_rows": "(book, moment, rows)"},
    "replays": {"keeper_of": "(book, entries)", "answers_for": "(book, entries)", "deeds_of": "(book, entries)"},
    "judge": {
        "loads": "(limit, deeds)", "fullest": "(limit, deeds)", "faults": "(book, deeds)", "keeps": "(book, deeds)",
        "would_break": "(book, deeds, request, moment)", "is_right": "(book, deeds, request, answer)",
    },
    "papers": {
        "refusal_paper": "(book, entries, key)", "check_refusal": "(book, deeds, request, moment, paper)",
    },
    "records": {
        "check_digits": "(text)", "record_line": "(number, body)", "record_text": "(number, body)",
        "read_record": "(line)", "whole_records": "(text)", "whole_length": "(text)",
    },
    "bodies": {
        "view_body": "(view)", "row_body": "(row)", "head_body": "(many, entries, moment, view)",
        "read_body": "(body)",
    },
    "journal": {"recovered": "(text)", "read_journal": "(text)", "mended": "(texts)"},
    "snapshots": {
        "keeper_from": "(book, journal)", "shortened": "(journal, book)", "agree": "(first, second)",
        "common_beginning": "(first, second)", "is_beginning": "(first, second)",
    },
    "letters": {"told_body": "(answer)", "told_answer": "(body)"},
    "chain": {
        "first_view": "(houses)", "without_house": "(view, house)", "with_house": "(view, house)",
        "ahead_of": "(view, house)", "behind": "(view, house)", "is_head": "(view, house)",
        "is_last": "(view, house)",
    },
    "house": {"first_text": "(view, due)"},
    "report": {
        "refusal_table": "(book, entries)", "group_table": "(book, entries)", "answer_table": "(book, entries)",
    },
}

CLASSES = {
    "books": {
        "Book": {
            "__init__": "(self, limits)", "limit_named": "(self, name)", "limits_for": "(self, group)",
            "with_limit": "(self, limit)", "without_limit": "(self, name)", "same_as": "(self, other)",
        },
    },
    "keeper": {
        "Answer": {"__init__": "(self, key, moment, lacking, earliest)", "parts": "(self)"},
        "Keeper": {
            "__init__": "(self, book)", "ask": "(self, request, moment)", "release": "(self, key, moment)",
            "knows": "(self, key)", "answer_of": "(self, key)", "holds": "(self, key)", "rows": "(self)",
            "twin": "(self)",
        },
    },
    "journal": {
        "Journal": {
            "__init__": "(self)", "write": "(self, entry)", "write_view": "(self, view)",
            "write_snapshot": "(self, keeper)", "records": "(self)", "text": "(self)", "entries": "(self)",
            "first_entry": "(self)", "last_view": "(self)", "last_moment": "(self)", "knows": "(self, key)",
            "torn": "(self, characters)", "trimmed": "(self)",
        },
    },
    "limits": {
        "WindowMeter": METER_METHODS, "SpanMeter": METER_METHODS, "BucketMeter": METER_METHODS,
        "GapMeter": METER_METHODS, "HeldMeter": METER_METHODS,
    },
    "pools": {"PoolMeter": METER_METHODS},
    "letters": {"Letter": {"__init__": "(self, number, sender, receiver, view, body)", "parts": "(self)"}},
    "house": {
        "House": {
            "__init__": "(self, name, book, text)", "row": "(self)", "journal_text": "(self)", "is_full": "(self)",
            "handle": "(self, letter, moment)", "wake": "(self)",
        },
    },
    "weave": {
        "Weave": {
            "__init__": "(self, book, houses)", "houses": "(self)", "present_view": "(self)", "stands": "(self, house)",
            "row_of": "(self, house)", "journal_text": "(self, house)", "view_of": "(self, house)",
            "due_of": "(self, house)", "full_houses": "(self)", "letters": "(self)",
            "ask": "(self, key, group, cost, *, house=None)", "release": "(self, key, *, house=None)",
            "tick": "(self, moments)", "deliver": "(self, number, *, falls_after=None)", "lose": "(self, number)",
            "double": "(self, number)", "wake": "(self, house)", "fall": "(self, house)", "rise": "(self, house)",
            "clear_disk": "(self, house)", "leave_out": "(self, house)", "take_in": "(self, house)",
            "announce": "(self)", "ask_again": "(self)", "told": "(self)", "untold": "(self)",
            "untold_releases": "(self)", "released": "(self)", "settle": "(self)",
        },
    },
    "desk": {
        "Desk": {
            "__init__": "(self, book)", "ask": "(self, key, group, cost, moment)", "release": "(self, key, moment)",
            "set_limit": "(self, limit)", "drop_limit": "(self, name)", "book_now": "(self)", "entries_now": "(self)",
            "answers_now": "(self)", "turned": "(self, book)", "undo": "(self)", "redo": "(self)", "trial": "(self)",
            "change_all": "(self, deeds)",
        },
        "Trial": {
            "__init__": "(self, desk)", "__enter__": "(self)", "__exit__": "(self, kind, value, trace)",
        },
    },
    "session": {"Session": {"__init__": "(self, book)", "obey": "(self, line)", "play": "(self, text)"}},
}

PROPERTIES = {("books", "Book"): ["limits", "limit_names"], ("desk", "Desk"): ["decided"]}


def module_of(name):
    return importlib.import_module(f"limitweave.{name}")


class Interface(unittest.TestCase):
    def test_functions(self):
        for file, functions in FUNCTIONS.items():
            for name, arguments in functions.items():
                with self.subTest(file=file, name=name):
                    function = getattr(module_of(file), name)
                    self.assertTrue(inspect.isfunction(function))
                    self.assertEqual(function.__module__, f"limitweave.{file}")
                    self.assertEqual(str(inspect.signature(function)), arguments)

    def test_classes(self):
        for file, classes in CLASSES.items():
            for name, methods in classes.items():
                found = getattr(module_of(file), name)
                self.assertEqual(found.__module__, f"limitweave.{file}")
                for method, arguments in methods.items():
                    with self.subTest(file=file, name=name, method=method):
                        self.assertIn(method, vars(found))
                        self.assertEqual(str(inspect.signature(vars(found)[method])), arguments)

    def test_properties(self):
        for (file, name), properties in PROPERTIES.items():
            for word in properties:
                with self.subTest(file=file, name=name, word=word):
                    self.assertIsInstance(vars(getattr(module_of(file), name))[word], property)
