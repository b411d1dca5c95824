"""The names and arguments of the interface, each in the very file that lists it."""

import importlib
import inspect
import unittest

FUNCTIONS = {
    "terms": {
        "is_word": ["text"],
        "check_signs": ["signs"],
        "arity_of": ["signs", "word"],
        "is_term": ["signs", "value"],
        "is_tree": ["signs", "value"],
        "names_of": ["term"],
        "size_of": ["term"],
        "depth_of": ["term"],
        "fill": ["term", "filling"],
    },
    "order": {
        "compare_trees": ["signs", "first", "second"],
        "count_trees": ["signs", "size"],
        "trees_of": ["signs", "size"],
    },
    "texts": {"term_text": ["term"], "read_term": ["signs", "text"]},
    "books": {
        "check_book": ["book"],
        "further_names": ["rule"],
        "floor_of": ["book", "mark"],
        "rules_of_floor": ["book", "floor"],
    },
    "bookwriter": {"book_text": ["book"], "rule_text": ["rule"]},
    "bookreader": {"read_book": ["text"], "read_rule": ["signs", "marks", "text"]},
    "table": {
        "check_table": ["book", "table"],
        "row_of": ["signs", "moves", "term", "filling"],
        "table_of": ["book"],
        "marks_of": ["book", "tree"],
        "has": ["book", "mark", "tree"],
    },
    "lemmas": {
        "is_lemma": ["book", "table", "lemma"],
        "value_of": ["book", "table", "lemmas", "floor", "term", "filling"],
        "follows": ["book", "table", "lemmas", "lemma"],
        "lemmas_of": ["book"],
    },
    "judge": {
        "keeps_rules": ["book", "table"],
        "judge_lemmas": ["book", "table", "lemmas"],
        "judge_table": ["book", "table", "lemmas"],
    },
    "sayings": {
        "check_saying": ["book", "saying"],
        "free_names": ["saying"],
        "holds": ["book", "saying", "filling"],
        "true_rows": ["book", "saying", "names"],
    },
    "plays": {
        "turned": ["saying"],
        "least_filling": ["book", "saying", "names"],
        "parting": ["book", "first", "second", "names"],
    },
    "papers": {
        "paper_of": ["book", "saying", "filling"],
        "judge_paper": ["book", "saying", "filling", "yes", "paper"],
    },
    "readers": {
        "check_reader": ["signs", "reader"],
        "least_of": ["signs", "reader"],
        "least_reader": ["book", "marks"],
        "read_tree": ["signs", "reader", "tree"],
    },
    "alike": {"part": ["first", "second", "pairs"], "part_readers": ["signs", "first", "second"]},
    "counts": {
        "count_with": ["book", "mark", "size"],
        "tree_at": ["book", "mark", "size", "index"],
        "place_of": ["book", "mark", "tree"],
    },
    "down": {"down_rules": ["book"], "marks_by_rules": ["signs", "marks", "rules", "tree"]},
    "games": {
        "check_game": ["game"],
        "book_of": ["game"],
        "options": ["game", "state", "stack"],
        "at_goal": ["game", "state", "stack"],
        "winner": ["game", "state", "stack"],
        "winning": ["game", "state"],
    },
    "gametexts": {"game_text": ["game"], "read_game": ["text"]},
    "store": {"load_store": ["text"]},
    "sayingtexts": {"saying_text": ["saying"], "read_saying": ["signs", "marks", "text"]},
    "lines": {"read_command": ["line"]},
    "desk": {"run_script": ["script"]},
    "turners": {
        "check_turner": ["turner"],
        "look_of": ["book"],
        "turned": ["turner", "tree"],
        "size_turned": ["turner", "tree"],
        "counts_at": ["turner", "tree", "path"],
    },
    "stands": {
        "stands_of": ["turner", "reader"],
        "behind": ["turner", "reader", "label"],
        "turned_reader": ["turner"],
    },
    "fits": {
        "fit": ["turner", "first", "mark", "second", "other"],
        "judge_fit": ["turner", "first", "mark", "second", "other", "paper"],
        "least_into": ["turner", "tree"],
    },
    "onebehind": {
        "one_of": ["first", "second"],
        "one_of_all": ["turners"],
        "judge_one": ["first", "second", "third", "paper"],
        "paper_of_one": ["first", "second"],
    },
    "copies": {
        "growth": ["turner"],
        "growth_paper": ["turner"],
        "count_paper": ["turner"],
        "judge_growth": ["turner", "paper"],
        "judge_counts": ["turner", "number", "paper"],
    },
    "samples": {
        "is_surrounding": ["signs", "value"],
        "make": ["surrounding", "tree"],
        "check_sample": ["signs", "sample"],
        "fits": ["signs", "reader", "sample"],
        "parts_of": ["signs", "sample"],
    },
    "sortings": {
        "first_sorting": ["signs", "sample", "most"],
        "reader_of": ["signs", "sample", "sorting"],
        "least_fit": ["signs", "sample", "most"],
        "possible_labels": ["signs", "labels", "sample", "tree", "most"],
    },
    "forcing": {
        "forcing_of": ["signs", "reader"],
        "judge_forcing": ["signs", "reader", "sample", "paper"],
    },
    "pickers": {
        "check_picker": ["signs", "picker"],
        "counts_of": ["signs", "picker", "tree"],
        "count_ways": ["signs", "picker", "tree"],
        "is_way": ["signs", "picker", "tree", "way"],
        "way_at": ["signs", "picker", "tree", "number"],
        "number_of": ["signs", "picker", "tree", "way"],
        "ways_of": ["signs", "picker", "tree"],
        "taken_reader": ["signs", "picker"],
        "known_reader": ["signs", "picker"],
    },
    "fewways": {
        "more_than": ["signs", "picker", "most"],
        "few_paper": ["signs", "picker", "most"],
        "judge_few": ["signs", "picker", "most", "paper"],
    },
    "spread": {
        "led": ["signs", "picker", "surrounding"],
        "useful_states": ["signs", "picker"],
        "spread": ["signs", "picker"],
        "spread_paper": ["signs", "picker"],
        "judge_spread": ["signs", "picker", "paper"],
        "times_for": ["signs", "picker", "paper", "most"],
        "bound_paper": ["signs", "picker"],
        "judge_bound": ["signs", "picker", "number", "paper"],
    },
    "sameways": {
        "parted_ways": ["signs", "first", "second"],
        "same_paper": ["signs", "first", "second"],
        "judge_same": ["signs", "first", "second", "paper"],
    },
}

CLASSES = {
    "plays": {
        "Play": {
            "__init__": ["self", "book", "saying", "filling"],
            "saying": ["self"],
            "filling": ["self"],
            "side": ["self"],
            "turn": ["self"],
            "choose": ["self", "choice"],
            "choices": ["self"],
            "back": ["self"],
            "winner": ["self"],
            "advice": ["self"],
        },
    },
    "plans": {
        "Plan": {
            "__init__": ["self", "game", "state", "stack"],
            "position": ["self"],
            "winner": ["self"],
            "options": ["self"],
            "advice": ["self"],
            "play": ["self", "index"],
            "ranks": ["self"],
        },
    },
    "learners": {
        "Learner": {
            "__init__": ["self", "signs"],
            "question": ["self"],
            "tell": ["self", "label"],
            "agree": ["self"],
            "differ": ["self", "tree", "label"],
            "is_done": ["self"],
            "reader": ["self"],
            "paper": ["self"],
            "sample": ["self"],
            "states": ["self"],
        },
    },
    "treestore": {
        "Grove": {
            "__init__": ["self", "book", "tree"],
            "tree": ["self"],
            "subtree": ["self", "path"],
            "marks_at": ["self", "path"],
            "paths_with": ["self", "mark"],
            "paths_where": ["self", "saying", "name"],
            "least_for": ["self", "path", "saying", "name"],
            "put": ["self", "path", "tree"],
            "swap": ["self", "first", "second"],
            "worked": ["self"],
            "undo": ["self"],
        },
    },
    "store": {
        "Store": {
            "__init__": ["self", "signs", "marks"],
            "book": ["self"],
            "rules": ["self"],
            "kept": ["self"],
            "row": ["self", "tree"],
            "change": ["self", "numbers", "rules"],
            "add": ["self", "rule"],
            "drop": ["self", "number"],
            "keep": ["self", "saying"],
            "let": ["self", "number"],
            "changes": ["self"],
            "undo": ["self"],
            "since": ["self", "point"],
            "image": ["self"],
        },
    },
}

CONSTANTS = {
    "bookreader": {"MAX_BOOK_TEXT": 6000},
    "table": {"MAX_ROWS": 24},
    "lemmas": {"MAX_STEPS": 600},
    "sayings": {"MAX_NODES": 60, "MAX_NESTED": 4},
    "papers": {"MAX_PAPER": 3000},
    "readers": {"MAX_STATES": 24, "MAX_LABEL": 6},
    "counts": {"MAX_SIZED": 40},
    "games": {"MAX_STACK": 99},
    "gametexts": {"MAX_GAME_TEXT": 4000},
    "store": {"MAX_KEPT": 8, "MAX_NUMBER": 999999, "MAX_IMAGE": 60000},
    "sayingtexts": {"MAX_SAYING_TEXT": 6000, "MAX_SAYING": 60, "MAX_NEST": 4, "MAX_GROUPS": 40},
    "desk": {"MAX_SCRIPT": 4000, "MAX_LINES": 60},
    "turners": {"MAX_PIECE": 24, "MAX_TURNING": 8},
    "stands": {"MAX_STANDS": 24},
    "fits": {"MAX_TRIPLES": 120},
    "copies": {"MAX_COUNTS": 2000},
    "samples": {"MAX_SAMPLE": 5000},
    "sortings": {"MAX_TRIES": 20000},
    "forcing": {"MAX_FORCED": 8},
    "learners": {"MAX_LEARNED": 10},
    "pickers": {"MAX_PICKED": 6, "MAX_SHOWN": 500},
    "fewways": {"MAX_MOST": 9, "MAX_CAPPED": 80},
    "spread": {"MAX_MET": 200},
}

ERRORS = {
    "PergolaError": [],
    "NotAllowed": [],
    "TooLarge": [],
    "Missing": [],
    "BadPaper": [],
    "BadForm": ["line"],
    "Broken": ["number"],
}


class InterfaceTest(unittest.TestCase):
    def test_functions(self):
        for place, functions in FUNCTIONS.items():
            module = importlib.import_module(f"pergola.{place}")
            for name, arguments in functions.items():
                function = getattr(module, name)
                self.assertTrue(inspect.isfunction(function))
                self.assertEqual(function.__module__, module.__name__)
                self.assertEqual(list(inspect.signature(function).parameters), arguments, name)

    def test_classes(self):
        for place, classes in CLASSES.items():
            module = importlib.import_module(f"pergola.{place}")
            for word, methods in classes.items():
                kind = getattr(module, word)
                self.assertEqual(kind.__module__, module.__name__)
                for name, arguments in methods.items():
                    self.assertEqual(list(inspect.signature(vars(kind)[name]).parameters), arguments, name)

    def test_constants(self):
        for place, constants in CONSTANTS.items():
            module = importlib.import_module(f"pergola.{place}")
            for name, number in constants.items():
                self.assertEqual(getattr(module, name), number)

    def test_errors(self):
        module = importlib.import_module("pergola.errors")
        for name, arguments in ERRORS.items():
            kind = getattr(module, name)
            self.assertEqual(kind.__module__, module.__name__)
            if arguments:
                self.assertEqual(list(inspect.signature(kind).parameters), arguments)


if __name__ == "__main__":
    unittest.main()
