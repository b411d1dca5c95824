"""The names and arguments of the interface, each in the very file that lists it."""

import importlib
import inspect
import unittest

FUNCTIONS = {
    "terms": {
        "is_word": ["text"],
        "check_signs": ["signs"],
        "arity_of": ["signs", "word"],
        "is_term": ["signs", "value"],
        "is_tree": ["signs", "value"],
        "names_of": ["term"],
        "size_of": ["term"],
        "depth_of": ["term"],
        "fill": ["term", "filling"],
    },
    "order": {
        "compare_trees": ["signs", "first", "second"],
        "count_trees": ["signs", "size"],
        "trees_of": ["signs", "size"],
    },
    "texts": {"term_text": ["term"], "read_term": ["signs", "text"]},
    "books": {
        "check_book": ["book"],
        "further_names": ["rule"],
        "floor_of": ["book", "mark"],
        "rules_of_floor": ["book", "floor"],
    },
    "bookwriter": {"book_text": ["book"], "rule_text": ["rule"]},
}

ERRORS = {
    "PergolaError": [],
    "NotAllowed": [],
    "TooLarge": [],
    "Missing": [],
    "BadPaper": [],
    "BadForm": ["line"],
    "Broken": ["number"],
}


class InterfaceTest(unittest.TestCase):
    def test_functions(self):
        for place, functions in FUNCTIONS.items():
            module = importlib.import_module(f"pergola.{place}")
            for name, arguments in functions.items():
                function = getattr(module, name)
                self.assertTrue(inspect.isfunction(function))
                self.assertEqual(function.__module__, module.__name__)
                self.assertEqual(list(inspect.signature(function).parameters), arguments, name)

    def test_errors(self):
        module = importlib.import_module("pergola.errors")
        for name, arguments in ERRORS.items():
            kind = getattr(module, name)
            self.assertEqual(kind.__module__, module.__name__)
            if arguments:
                self.assertEqual(list(inspect.signature(kind).parameters), arguments)


if __name__ == "__main__":
    unittest.main()
