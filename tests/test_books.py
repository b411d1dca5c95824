import copy
import unittest

from pergola.books import (
    MAX_BODY,
    MAX_FLOOR,
    MAX_MARKS,
    MAX_RULES,
    MAX_TERM,
    check_book,
    floor_of,
    further_names,
    rules_of_floor,
)
from pergola.errors import Missing, NotAllowed

SIGNS = (("z", 0), ("s", 1), ("pair", 2))
MARKS = (("low", 0), ("mid", 1), ("top", 2), ("base", 0), ("half", 1))
Z = ("z",)


def chain(many, inner):
    for _ in range(many):
        inner = ("s", inner)
    return inner


class BookTest(unittest.TestCase):
    """Books, each beside one that breaks just one sentence of the document."""

    def allowed(self, signs, marks, rules):
        self.assertIsNone(check_book((signs, marks, rules)))

    def refused(self, signs, marks, rules):
        with self.assertRaises(NotAllowed):
            check_book((signs, marks, rules))

    def good_rule(self, mark, head, *body):
        self.allowed(SIGNS, MARKS, ((mark, head, body),))
        self.allowed(SIGNS, MARKS, (("low", "x", ()), (mark, head, body)))

    def bad_rule(self, mark, head, *body):
        self.refused(SIGNS, MARKS, ((mark, head, body),))
        self.refused(SIGNS, MARKS, (("low", "x", ()), (mark, head, body), ("low", Z, ())))

    def good_body(self, *body):
        self.good_rule("top", ("pair", "x", "y"), *body)

    def bad_body(self, *body):
        self.bad_rule("top", ("pair", "x", "y"), *body)


class PartsOfBooksTest(BookTest):
    def test_constants(self):
        self.assertEqual((MAX_MARKS, MAX_FLOOR, MAX_RULES, MAX_BODY, MAX_TERM), (6, 2, 24, 4, 6))

    def test_example(self):
        even = (True, "even", "x")
        odd = (True, "odd", ("s", "x"))
        rules = (("even", Z, ()), ("odd", ("s", "x"), (even,)), ("even", "x", (odd,)))
        self.allowed((("z", 0), ("s", 1)), (("even", 0), ("odd", 0)), rules)

    def test_signs(self):
        marks = (("m", 0),)
        self.allowed((("z", 0),), marks, ())
        self.refused((), marks, ())
        self.refused((("s", 1),), marks, ())
        self.refused((("z", 0), ("z", 0)), marks, ())
        self.refused((("z", 0), ("s", 3)), marks, ())
        self.refused((("end", 0),), marks, ())
        self.refused(tuple((word, 0) for word in "abcde"), marks, ())

    def test_how_many_marks(self):
        self.refused(SIGNS, (), ())
        for many, whether in [(1, True), (6, True), (7, False)]:
            marks = tuple((word, 0) for word in "abcdefg"[:many])
            if whether:
                self.allowed(SIGNS, marks, ())
            else:
                self.refused(SIGNS, marks, ())

    def test_words_of_marks(self):
        for word in ["abcdefgh", "m", "x"]:
            self.allowed(SIGNS, (("first", 0), (word, 0)), ())
        for word in ["", "abcdefghi", "not", "Even", "a b", "a1"]:
            self.refused(SIGNS, (("first", 0), (word, 0)), ())
            self.refused(SIGNS, ((word, 0),), ())

    def test_marks_are_different(self):
        self.refused(SIGNS, (("m", 0), ("m", 0)), ())
        self.refused(SIGNS, (("m", 0), ("n", 0), ("m", 1)), ())

    def test_marks_are_no_signs(self):
        for word in ["z", "s", "pair"]:
            self.refused(SIGNS, ((word, 0),), ())
            self.refused(SIGNS, (("m", 0), (word, 1)), ())

    def test_floors_of_marks(self):
        for floor in [0, 1, 2]:
            self.allowed(SIGNS, (("m", floor),), ())
        for floor in [-1, 3, 10]:
            self.refused(SIGNS, (("m", floor),), ())
            self.refused(SIGNS, (("m", 0), ("n", floor), ("o", 1)), ())

    def test_how_many_rules(self):
        rule = ("low", "x", ())
        self.allowed(SIGNS, MARKS, ())
        self.allowed(SIGNS, MARKS, (rule,) * 24)
        self.refused(SIGNS, MARKS, (rule,) * 25)

    def test_marks_of_rules(self):
        for mark in ["low", "mid", "top"]:
            self.good_rule(mark, "x")
        for mark in ["lows", "", "z", "x", "not"]:
            self.bad_rule(mark, "x")


class HeadsTest(BookTest):
    def test_names(self):
        for name in ["x", "xx", "aabb", "zs", "abcdefgh", "low"]:
            self.good_rule("low", name)
        for name in ["z", "s", "pair", "not", "", "abcdefghi", "X"]:
            self.bad_rule("low", name)
            self.bad_rule("low", ("s", name))
            self.bad_rule("low", ("pair", "x", name))

    def test_signs(self):
        for head in [Z, ("s", "x"), ("pair", "x", "y")]:
            self.good_rule("low", head)
        for head in [("x",), ("t", "x"), ("", "x"), ("not", "x"), ("low", "x"), (), ((),), (Z,), (("s",), "x")]:
            self.bad_rule("low", head)

    def test_number_of_names(self):
        for head in [("z", "x"), ("s",), ("s", "x", "y"), ("pair",), ("pair", "x"), ("pair", "x", "y", "w")]:
            self.bad_rule("low", head)

    def test_name_twice(self):
        self.bad_rule("low", ("pair", "x", "x"))

    def test_terms_in_the_places_of_names(self):
        for part in [Z, ("s", "x"), ("s", "w"), (), ("x",), ("pair", "v", "w"), (("z",),)]:
            self.bad_rule("low", ("s", part))
            self.bad_rule("low", ("pair", part, "x"))
            self.bad_rule("low", ("pair", "x", part))


class BodiesTest(BookTest):
    def test_how_many_literals(self):
        literal = (True, "low", "x")
        for many in range(5):
            self.good_body(*[literal] * many)
        self.bad_body(*[literal] * 5)

    def test_sizes_of_terms(self):
        self.good_body((True, "low", chain(5, "x")), (False, "low", chain(5, Z)))
        self.bad_body((True, "low", chain(6, "x")))
        self.bad_body((False, "low", chain(6, Z)))
        self.bad_body((True, "low", "x"), (True, "low", chain(6, "x")))
        self.good_body((True, "low", ("pair", ("pair", "x", Z), ("s", "y"))))
        self.bad_body((True, "low", ("pair", ("pair", "x", Z), ("pair", "x", "y"))))
        self.bad_body((True, "low", chain(199, "x")))
        huge = "x"
        for _ in range(150):
            huge = ("pair", huge, huge)
        self.bad_body((True, "low", huge))

    def test_terms(self):
        for term in ["z", "not", "", "X", "abcdefghi", (), ("z", "x"), ("s",), ("s", "x", "y"), ("t", "x"), ("s", ())]:
            self.bad_body((True, "low", term))
            self.bad_body((True, "low", ("s", term)))
            self.bad_body((True, "low", "x"), (False, "low", ("pair", "x", term)))

    def test_marks(self):
        for mark in ["lows", "", "z", "x", "not"]:
            self.bad_body((True, mark, "x"))
            self.bad_body((False, mark, "x"))
            self.bad_body((True, "low", "x"), (True, mark, "x"))

    def test_further_names(self):
        self.good_body((True, "low", "u"))
        self.good_body((True, "low", ("pair", "u", "x")), (False, "mid", ("pair", "u", "u")), (True, "low", "y"))
        self.bad_body((True, "low", "u"), (True, "low", "v"))
        self.bad_body((True, "low", ("pair", "u", "v")))
        self.bad_body((True, "low", ("pair", "u", "x")), (True, "low", "y"), (False, "low", ("s", "v")))
        self.good_rule("low", Z, (True, "low", "x"))
        self.bad_rule("low", Z, (True, "low", "x"), (True, "low", "y"))
        self.good_rule("low", "x", (True, "low", ("pair", "x", "y")))
        self.bad_rule("low", "x", (True, "low", ("pair", "w", "y")))
        self.good_rule("low", ("s", "x"), (True, "low", ("pair", "x", "y")))

    def test_floors_of_literals(self):
        of_floor = {0: ["low", "base"], 1: ["mid", "half"], 2: ["top"]}
        for floor, marks in of_floor.items():
            for mark in marks:
                for other, words in of_floor.items():
                    for word in words:
                        self.floors(mark, (True, word, "x"), other <= floor)
                        self.floors(mark, (False, word, "x"), other < floor)

    def floors(self, mark, literal, whether):
        for body in [(literal,), ((True, "low", "x"), literal), (literal, (True, "base", "y"))]:
            if whether:
                self.good_rule(mark, ("s", "x"), *body)
            else:
                self.bad_rule(mark, ("s", "x"), *body)


class QuestionsTest(unittest.TestCase):
    BOOK = (
        SIGNS,
        MARKS,
        (
            ("mid", "x", ()),
            ("low", Z, ()),
            ("top", ("s", "x"), ((False, "mid", "x"),)),
            ("base", "x", ()),
            ("half", "x", ()),
            ("low", ("s", "x"), ((True, "low", "x"),)),
        ),
    )

    def test_further_names(self):
        self.assertEqual(further_names(("low", "x", ())), [])
        self.assertEqual(further_names(("low", Z, ((True, "low", "x"), (True, "low", "x")))), ["x"])
        self.assertEqual(further_names(("low", "x", ((True, "low", ("pair", "x", "x")),))), [])
        body = ((True, "low", "y"), (True, "low", ("pair", "x", ("s", "u"))), (False, "low", "u"))
        self.assertEqual(further_names(("mid", ("pair", "x", "y"), body)), ["u"])
        self.assertEqual(further_names(("mid", ("s", "u"), body[1:])), ["x"])

    def test_floor_of(self):
        self.assertEqual([floor_of(self.BOOK, mark) for mark, _ in MARKS], [0, 1, 2, 0, 1])
        for mark in ["lows", "", "z", "x", "not", "lo"]:
            with self.assertRaises(Missing):
                floor_of(self.BOOK, mark)

    def test_rules_of_floor(self):
        self.assertEqual([rules_of_floor(self.BOOK, floor) for floor in range(3)], [[1, 3, 5], [0, 4], [2]])
        empty = (SIGNS, MARKS, ())
        self.assertEqual([rules_of_floor(empty, floor) for floor in range(3)], [[], [], []])

    def test_nothing_is_changed_or_kept(self):
        before = copy.deepcopy(self.BOOK)
        rule = ("low", Z, ((True, "low", "x"),))
        further_names(rule).append("y")
        rules_of_floor(self.BOOK, 0).clear()
        check_book(self.BOOK)
        self.assertEqual(further_names(rule), ["x"])
        self.assertEqual(rules_of_floor(self.BOOK, 0), [1, 3, 5])
        self.assertEqual(self.BOOK, before)


if __name__ == "__main__":
    unittest.main()
