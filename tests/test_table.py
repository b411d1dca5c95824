import copy
import itertools
import random
import time
import unittest

import chance
import examples
import told
from pergola.bookreader import read_book
from pergola.errors import Missing, NotAllowed, TooLarge
from pergola.order import compare_trees
from pergola.table import MAX_ROWS, check_table, has, marks_of, row_of, table_of
from pergola.terms import depth_of, size_of

Z = ("z",)
EVEN = read_book(examples.EVEN)
UP = read_book(examples.UP)
ASIDE = read_book(examples.ASIDE)
FLOORS = read_book(examples.FLOORS)
PLAIN = ((("z", 0), ("s", 1), ("pair", 2)), (("m", 0), ("n", 1), ("o", 0)), ())


def chain(many, inner=Z):
    for _ in range(many):
        inner = ("s", inner)
    return inner


def comb(pairs, inner=Z):
    for _ in range(pairs):
        inner = ("pair", inner, Z)
    return inner


def plain_table(many):
    """A table over PLAIN with so many rows, all empty."""
    pairs = ((0,) * many,) * many
    return ((),) * many, (many - 1, (0,) * many, pairs), (Z,) * many


class CheckTableTest(unittest.TestCase):
    def allowed(self, table, book=PLAIN):
        self.assertIsNone(check_table(book, table))

    def refused(self, table, book=PLAIN):
        with self.assertRaises(NotAllowed):
            check_table(book, table)

    def test_constant(self):
        self.assertEqual(MAX_ROWS, 24)

    def test_how_many_rows(self):
        for many, whether in [(0, False), (1, True), (2, True), (24, True), (25, False)]:
            (self.allowed if whether else self.refused)(plain_table(many))
        self.refused(((), (0, (), ()), ()))

    def test_rows(self):
        rows, moves, trees = plain_table(2)
        for row in [(), ("m",), ("n",), ("o",), ("m", "n"), ("m", "o"), ("n", "o"), ("m", "n", "o")]:
            self.allowed(((row, ()), moves, trees))
            self.allowed(((("m",), row), moves, trees))
        for row in [("p",), ("z",), ("",), ("n", "m"), ("o", "n"), ("m", "m"), ("m", "n", "n"), ("m", "p"), ("mn",)]:
            self.refused(((row, ()), moves, trees))
            self.refused(((("m",), row), moves, trees))
        self.refused((("m", "n"), moves, trees))

    def test_how_many_moves(self):
        rows, moves, trees = plain_table(2)
        self.refused((rows, (), trees))
        self.refused((rows, moves[:2], trees))
        self.refused((rows, moves + (0,), trees))
        self.refused((rows, (moves[1], moves[0], moves[2]), trees))

    def test_entries_of_the_arity_0(self):
        rows, moves, trees = plain_table(3)
        for entry in [0, 1, 2]:
            self.allowed((rows, (entry,) + moves[1:], trees))
        for entry in [-1, 3, 24, (), (0,), (0, 0, 0), moves[2]]:
            self.refused((rows, (entry,) + moves[1:], trees))

    def test_entries_of_the_arity_1(self):
        rows, moves, trees = plain_table(3)
        for entry in itertools.product(range(3), repeat=3):
            self.allowed((rows, (0, entry, moves[2]), trees))
        for entry in [0, (), (0,), (0, 0), (0,) * 4, (0, 0, 3), (-1, 0, 0), (0, (0,), 0), (0, 0, ()), moves[2]]:
            self.refused((rows, (0, entry, moves[2]), trees))

    def test_entries_of_the_arity_2(self):
        rows, moves, trees = plain_table(2)
        for entry in itertools.product(range(2), repeat=4):
            self.allowed((rows, (0, (0, 0), (entry[:2], entry[2:])), trees))
        one = (0, 0)
        for entry in [0, (), one, (one,), (one, one, one), (one, (0,)), ((0, 0, 0), one), (one, 0), (1, one)]:
            self.refused((rows, (0, one, entry), trees))
        for entry in [((0, 2), one), (one, (-1, 0)), (one, ((0, 0), 0)), ((one, one), (one, one)), (one, ())]:
            self.refused((rows, (0, one, entry), trees))

    def test_trees(self):
        rows, moves, _ = plain_table(2)
        for tree in [Z, chain(99), comb(99), ("pair", Z, chain(3))]:
            self.allowed((rows, moves, (tree, Z)))
            self.allowed((rows, moves, (Z, tree)))
        wide = Z
        for _ in range(8):
            wide = ("pair", wide, wide)
        for tree in ["x", "z", (), ("s",), ("s", "x"), ("t", Z), (Z,), chain(100), wide, ("pair", Z, "x"), ("o",)]:
            self.refused((rows, moves, (tree, Z)))
            self.refused((rows, moves, (Z, tree)))
        for trees in [(), (Z,), (Z, Z, Z)]:
            self.refused((rows, moves, trees))

    def test_tables_of_books(self):
        for text in [examples.EVEN, examples.UP, examples.ASIDE, examples.FLOORS, examples.ROWS24, examples.SIZE400]:
            book = read_book(text)
            self.allowed(table_of(book), book)


    def test_trees_over_one_another(self):
        """Trees that have trees ahead of them as their parts are no less checked."""
        def whether(*trees):
            many = len(trees)
            table = (plain_table(many)[0], plain_table(many)[1], trees)
            try:
                check_table(PLAIN, table)
                return True
            except NotAllowed:
                return False

        full = [Z]
        for _ in range(7):
            full.append(("pair", full[-1], full[-1]))
        self.assertEqual(size_of(full[-1]), 255)
        self.assertFalse(whether(*full, chain(72, chain(71))))
        rest = comb(71)
        self.assertEqual(size_of(rest), 143)
        self.assertTrue(whether(*full, rest, ("pair", full[-1], rest)))
        self.assertTrue(whether(*full, rest, ("pair", full[-1], rest), ("s", ("pair", full[-1], rest))))
        self.assertFalse(whether(*full, rest, ("s", rest), ("pair", full[-1], rest), ("pair", full[-1], ("s", ("s", rest)))))
        self.assertTrue(whether(full[-1], ("s", rest), ("pair", full[-1], ("s", rest))))
        self.assertFalse(whether(full[-1], ("s", ("s", rest)), ("pair", full[-1], ("s", ("s", rest)))))
        self.assertFalse(whether(full[-1], ("pair", full[-1], full[-1])))
        deep = chain(98)
        self.assertTrue(whether(deep, ("s", deep)))
        self.assertFalse(whether(deep, ("s", deep), ("s", ("s", deep))))
        self.assertFalse(whether(Z, deep, ("s", deep), ("pair", Z, ("s", deep))))
        self.assertTrue(whether(Z, deep, ("pair", Z, deep)))
        for wrong in [("s",), ("s", Z, Z), ("pair", Z), ("z", Z), ("no", Z), (Z,), (Z, Z), (), "z", "x", ("s", "x"), ("pair", Z, "z"), ("pair", Z, ()),
                      ("s", ("no",)), (("s",), Z), ("pair", ("s", Z), ("s",))]:
            self.assertFalse(whether(Z, ("s", Z), wrong), wrong)
            self.assertFalse(whether(wrong, Z), wrong)


class RowOfTest(unittest.TestCase):
    SIGNS = (("z", 0), ("s", 1), ("pair", 2))
    MOVES = (1, (1, 2, 0), ((0, 1, 2), (2, 2, 1), (0, 2, 0)))

    def row(self, term, filling=None):
        return row_of(self.SIGNS, self.MOVES, term, filling or {})

    def test_terms(self):
        self.assertEqual(self.row(Z), 1)
        self.assertEqual([self.row("x", {"x": row, "y": 1}) for row in range(3)], [0, 1, 2])
        self.assertEqual([self.row(("s", "x"), {"x": row}) for row in range(3)], [1, 2, 0])
        for one, other in itertools.product(range(3), repeat=2):
            term = ("pair", "x", "y")
            self.assertEqual(self.row(term, {"x": one, "y": other, "w": 2}), self.MOVES[2][one][other])
            self.assertEqual(self.row(term, {"y": one, "x": other}), self.MOVES[2][other][one])
        self.assertEqual(self.row(("pair", ("s", "x"), ("pair", "x", Z)), {"x": 2}), self.MOVES[2][0][2])

    def test_deep_trees(self):
        self.assertEqual(self.row(chain(99)), [1, 2, 0][99 % 3])
        row = 1
        for _ in range(99):
            row = self.MOVES[2][row][1]
        self.assertEqual(self.row(comb(99)), row)

    def test_by_chance(self):
        chooser = random.Random(2)
        for _ in range(200):
            term = chance.some_term(chooser, self.SIGNS, ["x", "y"], chooser.randint(1, 12))
            filling = {"x": chooser.randrange(3), "y": chooser.randrange(3)}
            self.assertEqual(self.row(term, filling), told.row_told(self.SIGNS, self.MOVES, term, filling))

    def test_nothing_is_changed(self):
        filling = {"x": 2}
        self.row(("s", "x"), filling)
        self.assertEqual(filling, {"x": 2})


class TableOfTest(unittest.TestCase):
    def test_example(self):
        table = ((("even",), ("odd", "no")), (0, (1, 0)), (Z, ("s", Z)))
        self.assertEqual(table_of(EVEN), table)
        self.assertEqual(marks_of(EVEN, chain(3)), ("odd", "no"))

    def test_one_row(self):
        book = ((("z", 0),), (("m", 2),), ())
        self.assertEqual(table_of(book), (((),), (0,), (Z,)))
        self.assertEqual(table_of(book[:2] + ((("m", "x", ()),),)), ((("m",),), (0,), (Z,)))

    def test_rules_that_ask_for_themselves(self):
        rules = (("m", "x", ((True, "m", "x"),)), ("m", "x", ((True, "m", ("s", "x")),)), ("m", Z, ((True, "m", "u"),)))
        self.assertEqual(table_of(((("z", 0), ("s", 1)), (("m", 0),), rules))[0], ((),))

    def test_order_of_rows_and_signs(self):
        text = "sign s 1\nsign o 0\nsign z 0\nmark mz 0\nmark mo 0\nmark ms 0\nmz(z)\nmo(o)\nms(s(x)) if mz(x)\n"
        trees = (("o",), Z, ("s", ("o",)), ("s", Z))
        rows = (("mo",), ("mz",), (), ("ms",))
        self.assertEqual(table_of(read_book(text)), (rows, ((2, 3, 2, 2), 0, 1), trees))
        turned = text.replace("sign o 0\nsign z 0\n", "sign z 0\nsign o 0\n")
        trees = (Z, ("o",), ("s", Z), ("s", ("o",)))
        rows = (("mz",), ("mo",), ("ms",), ())
        self.assertEqual(table_of(read_book(turned)), (rows, ((2, 3, 3, 3), 0, 1), trees))

    def test_least_trees_of_one_size(self):
        start = "sign z 0\nsign o 0\nsign pair 2\nsign node 2\nmark m 0\nmark oo 0\nmark no 0\noo(o)\nno(o)\nno(z)\n"
        table = table_of(read_book(start + "m(pair(x, y)) if no(x), oo(y)\nm(node(x, y)) if no(x), no(y)\n"))
        o = ("o",)
        self.assertEqual(table[0], (("no",), ("oo", "no"), (), ("m",)))
        self.assertEqual(table[2], (Z, o, ("pair", Z, Z), ("pair", Z, o)))

    def test_rules_that_look_down(self):
        """Where no rule looks up or aside, the marks of small trees can be found at once."""
        chooser = random.Random(3)
        many = 0
        for _ in range(400):
            signs, marks, rules = chance.some_book(chooser, 5, 14)
            down = [rule for rule in rules if all(term in told.names_told(rule[1]) for _, _, term in rule[2])]
            book = (signs, marks, tuple(down))
            many += len(self.same_marks(book, 6, 6)) > 2
        self.assertGreater(many, 60)

    def test_rules_that_look_up(self):
        self.assertEqual(len(self.same_marks(UP, 9, 3)), 2)
        self.assertEqual(marks_of(UP, chain(3)), ("flat", "half", "calm"))
        self.assertEqual(marks_of(UP, ("pair", Z, Z)), ("twin",))
        self.assertEqual(marks_of(UP, ("s", ("pair", Z, Z))), ())

    def test_rules_that_look_aside(self):
        self.assertEqual(len(self.same_marks(ASIDE, 8, 6)), 5)
        lacking = read_book(examples.ASIDE.replace("base(o)\n", ""))
        self.assertEqual(table_of(lacking)[0], ((),))

    def test_three_floors(self):
        self.assertEqual(len(self.same_marks(FLOORS, 8, 5)), 4)
        self.assertEqual(marks_of(FLOORS, chain(3)), ("top", "odd", "plain"))
        self.assertEqual(marks_of(FLOORS, ("pair", chain(1), Z)), ("mixed",))

    def test_positive_rules_find_no_less_than_rounds_do(self):
        chooser = random.Random(4)
        for _ in range(150):
            signs, marks, rules = chance.some_book(chooser, 4, 10)
            kept = [rule for rule in rules if all(yes for yes, _, _ in rule[2])]
            book = (signs, marks, tuple(kept))
            for tree, marks_found in told.marks_in_rounds(book, 5).items():
                self.assertLessEqual(set(marks_found), set(marks_of(book, tree)))

    def same_marks(self, book, size, most):
        """The rows met, if among trees up to one size those up to another have the same marks."""
        table = table_of(book)
        met = {}
        for tree, marks in told.marks_in_rounds(book, size).items():
            if size_of(tree) <= most:
                self.assertEqual(table[0][row_of(book[0], table[1], tree, {})], marks, (book, tree))
                met.setdefault(marks, tree)
        # Trees come in order there, so each row is met with its least tree.
        self.assertEqual(list(met.items()), list(zip(table[0], table[2]))[: len(met)])
        return met

    def test_parts_of_the_table(self):
        chooser = random.Random(5)
        for _ in range(200):
            book = chance.some_book(chooser, 6, 20)
            rows, moves, trees = table_of(book)
            self.assertIsNone(check_table(book, (rows, moves, trees)))
            self.assertEqual(len(set(rows)), len(rows))
            for number, tree in enumerate(trees):
                self.assertEqual(row_of(book[0], moves, tree, {}), number)
                self.assertLessEqual(depth_of(tree), len(rows))
            for one, other in zip(trees, trees[1:]):
                self.assertEqual(compare_trees(book[0], one, other), -1)


class BoundsTest(unittest.TestCase):
    def too_large(self, book, tree=Z):
        mark = book[1][0][0]
        for ask in [lambda: table_of(book), lambda: marks_of(book, tree), lambda: has(book, mark, tree)]:
            with self.assertRaises(TooLarge):
                ask()
        for word in ["lows", "", "z", "x", "not"]:
            with self.assertRaises(Missing):
                has(book, word, tree)

    def test_rows(self):
        self.assertEqual(len(table_of(read_book(examples.ROWS24))[0]), 24)
        self.too_large(read_book(examples.ROWS25))
        self.too_large(read_book(examples.ROWS27))

    def test_rows_on_several_floors(self):
        self.too_large(read_book(examples.shifts(5, "")))
        self.too_large(read_book(examples.shifts(5, "mark top 1\n")))
        self.assertEqual(len(table_of(read_book(examples.shifts(4, "mark top 1\n")))[0]), 16)
        for text in [examples.ROWS27, examples.ROWS24]:
            for word, floor in [("pa", 1), ("qa", 2)]:
                text = text.replace(f"mark {word} 0", f"mark {word} {floor}")
                text = text.replace(f"mark {word[0]}b 0", f"mark {word[0]}b {floor}")
            text = "".join(line for line in text.splitlines(True) if ", " not in line)
            self.too_large(read_book(text))

    def test_sizes(self):
        rows, moves, trees = table_of(read_book(examples.SIZE400))
        self.assertEqual(len(rows), 12)
        self.assertEqual(sorted(map(size_of, trees)), [1, 2, 3, 5, 11, 23, 24, 49, 99, 199, 399, 400])
        self.assertEqual([size_of(tree) for tree in trees], sorted(map(size_of, trees)))
        self.too_large(read_book(examples.SIZE401))

    def test_sizes_far_beyond(self):
        signs = "sign z 0\nsign pair 2\n"
        marks = [(a, b) for at, a in enumerate("abcdef") for b in "abcdef"[at + 1:]][:12]
        lines = ["ma(z)", "mb(z)"]
        for (a, b), (first, second) in zip(marks, marks[1:]):
            for letter in (first, second):
                lines.append(f"m{letter}(pair(x, y)) if m{a}(x), m{b}(x), m{a}(y), m{b}(y)")
        self.too_large(read_book(signs + examples.SIX + "".join(f"{line}\n" for line in lines)))

    def test_deep_trees(self):
        wide = Z
        for _ in range(98):
            wide = ("pair", wide, ("s", Z))
        for tree in [chain(99), comb(99), wide]:
            self.assertEqual(depth_of(tree), 100)
            self.assertEqual(marks_of(FLOORS, tree), self.marks_down(tree))

    def marks_down(self, tree):
        """The marks of a tree in FLOORS, found from the rows of its parts."""
        rows, moves, _ = table_of(FLOORS)
        numbers = []
        waiting = [(tree, False)]
        while waiting:
            node, done = waiting.pop()
            if not done:
                waiting.append((node, True))
                waiting += [(part, False) for part in reversed(node[1:])]
                continue
            parts = [numbers.pop() for _ in node[1:]][::-1]
            numbers.append(told.moved(moves[["z", "s", "pair"].index(node[0])], parts))
        return rows[numbers[0]]

    def test_399_signs(self):
        tree = ("pair", ("pair", comb(49), comb(49)), ("pair", comb(49, chain(1)), comb(48, chain(1))))
        self.assertEqual(size_of(tree), 399)
        self.assertEqual(marks_of(FLOORS, tree), self.marks_down(tree))
        for mark in ["top", "even", "odd", "mixed", "plain"]:
            self.assertIs(has(FLOORS, mark, tree), mark in marks_of(FLOORS, tree))


class QuestionsTest(unittest.TestCase):
    def test_has(self):
        for many in range(6):
            self.assertIs(has(EVEN, "even", chain(many)), many % 2 == 0)
            self.assertIs(has(EVEN, "odd", chain(many)), many % 2 == 1)
            self.assertIs(has(EVEN, "no", chain(many)), many % 2 == 1)
        for word in ["evens", "", "z", "x", "not", "eve"]:
            with self.assertRaises(Missing):
                has(EVEN, word, Z)

    def test_nothing_is_changed_or_kept(self):
        books = [EVEN, UP, ASIDE, FLOORS]
        before = copy.deepcopy(books)
        tables = [table_of(book) for book in books]
        marks = [marks_of(book, Z) for book in books]
        self.assertEqual([table_of(book) for book in reversed(books)], tables[::-1])
        self.assertEqual([marks_of(book, Z) for book in reversed(books)], marks[::-1])
        self.assertEqual(books, before)

    def test_equal_books_have_equal_tables(self):
        for text in [examples.EVEN, examples.UP, examples.LARGE_ASIDE]:
            self.assertEqual(table_of(read_book(text)), table_of(read_book(text)))


class TimeTest(unittest.TestCase):
    def test_largest_books(self):
        for text, many in [(examples.LARGE_UP, 24), (examples.LARGE_ASIDE, 24), (examples.LARGE_BEYOND, 0)]:
            book = read_book(text)
            self.assertEqual((len(book[1]), len(book[2])), (6, 24))
            start = time.perf_counter()
            if many:
                self.assertEqual(len(table_of(book)[0]), many)
            else:
                with self.assertRaises(TooLarge):
                    table_of(book)
            self.assertLess(time.perf_counter() - start, 15)


if __name__ == "__main__":
    unittest.main()
