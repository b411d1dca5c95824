import copy
import random
import time
import unittest

import chance
import examples
import told
from pergola.bookreader import read_book
from pergola.errors import BadPaper, NotAllowed, TooLarge
from pergola.judge import judge_lemmas, judge_table, keeps_rules
from pergola.lemmas import is_lemma, lemmas_of
from pergola.table import check_table, has, marks_of, table_of
from test_lemmas import EVEN, FIRST, FOURTH, SECOND, TABLE, THIRD, some_lemma

Z = ("z",)
ONE = ("s", Z)
LEMMAS = [FIRST, SECOND, THIRD, FOURTH]


def book_of(*rules):
    """A book of a few signs and marks with these rules."""
    return read_book("sign z 0\nsign o 0\nsign s 1\nmark m 0\nmark n 0\nmark k 1\n" + "".join(f"{rule}\n" for rule in rules))


class KeepsRulesTest(unittest.TestCase):
    TABLE = ((("m",), ("n",), ("k",)), (0, 1, (1, 2, 2)), (Z, Z, Z))

    def keeps(self, whether, *rules):
        self.assertIs(keeps_rules(book_of(*rules), self.TABLE), whether)

    def test_heads(self):
        self.keeps(True)
        self.keeps(True, "m(z)", "n(o)")
        self.keeps(False, "n(z)")
        self.keeps(False, "m(x)")
        self.keeps(False, "n(s(x))")
        self.keeps(False, "m(z)", "k(s(x))", "n(o)")

    def test_bodies(self):
        self.keeps(True, "n(s(x)) if m(x)")
        self.keeps(False, "n(s(x)) if n(x)")
        self.keeps(True, "n(s(x)) if m(x), m(x)")
        self.keeps(True, "n(s(x)) if n(x), m(x)")
        self.keeps(True, "k(s(x)) if not m(x)")
        self.keeps(False, "k(s(x)) if not n(x)")
        self.keeps(True, "k(x) if not m(x), not n(x)")
        self.keeps(False, "k(x) if not m(x)")
        self.keeps(True, "m(x) if n(s(x))")
        self.keeps(False, "n(x) if n(s(x))")
        self.keeps(False, "k(x) if k(s(s(x)))")

    def test_further_names(self):
        self.keeps(True, "m(z) if m(u)")
        self.keeps(False, "n(z) if m(u)")
        self.keeps(True, "n(z) if m(u), n(u)")
        self.keeps(False, "n(s(x)) if n(s(u))")
        self.keeps(True, "n(s(x)) if m(x), n(s(u))")

    def test_names_in_pairs(self):
        book = read_book("sign z 0\nsign pair 2\nmark m 0\nmark n 0\nm(pair(x, y)) if n(pair(y, u)), n(x)\n")
        rows = (("m",), ("n",))
        for moves, whether in [((0, 0), True), ((1, 0), False)]:
            table = (rows, (0, (moves, (0, 0))), (Z, Z))
            self.assertIs(keeps_rules(book, table), told.keeps_told(book, table))
        table = (rows, (0, ((0, 1), (1, 0))), (Z, Z))
        self.assertIs(keeps_rules(book, table), False)

    def test_tables_of_books(self):
        for text in [examples.EVEN, examples.UP, examples.ASIDE, examples.FLOORS, examples.ROWS24, examples.SIZE400]:
            book = read_book(text)
            self.assertIs(keeps_rules(book, table_of(book)), True)


class JudgeLemmasTest(unittest.TestCase):
    def right(self, lemmas, table=TABLE):
        self.assertIsNone(judge_lemmas(EVEN, table, lemmas))

    def wrong(self, lemmas, table=TABLE):
        with self.assertRaises(BadPaper):
            judge_lemmas(EVEN, table, lemmas)

    def refused(self, lemmas, table=TABLE):
        for judge in [judge_lemmas, judge_table]:
            with self.assertRaises(NotAllowed):
                judge(EVEN, table, lemmas)

    def test_right_lists(self):
        self.right([])
        self.right(LEMMAS)
        self.right(LEMMAS[::-1])
        self.right([SECOND, THIRD])
        self.right([FIRST, FIRST])
        self.right(LEMMAS + LEMMAS)

    def test_lemmas_that_do_not_follow(self):
        for lemma in [
            ("odd", "s", ((0, ()),), 1, ()),
            ("odd", "s", ((1, ()),), 1, ()),
            ("even", "s", ((1, ()),), 2, ()),
            ("no", "s", ((1, ()),), 3, ()),
            ("no", "z", (), 3, ()),
        ]:
            self.wrong([lemma])
            self.wrong(LEMMAS + [lemma])
            self.wrong([lemma] + LEMMAS)

    def test_order(self):
        book = read_book("sign z 0\nsign s 1\nmark a 0\nmark b 0\na(z)\nb(x) if a(x)\na(s(x)) if b(x), a(z)\n")
        table = table_of(book)
        base, over, far = ("a", "z", (), 0, ()), ("b", "z", (), 1, ()), ("a", "s", ((0, ("b",)),), 2, ())
        for lemmas, whether in [
            ([base, over, far], True),
            ([base, far, over], True),
            ([over, base, far], False),
            ([far, base, over], False),
            ([over, far], False),
            ([base, far], True),
            ([far], False),
            ([base, base, far, far, over], True),
            ([over, base, over], False),
        ]:
            self.assertIs(told.right_told(book, table, lemmas), whether)
            if whether:
                self.assertIsNone(judge_lemmas(book, table, lemmas))
            else:
                with self.assertRaises(BadPaper):
                    judge_lemmas(book, table, lemmas)

    def test_no_tables(self):
        rows, moves, trees = TABLE
        for table in [
            ((), moves, trees),
            (rows, moves[:1], trees),
            (rows, (2, (1, 0)), trees),
            (rows, (0, 1), trees),
            (rows, moves, trees[:1]),
            (rows, moves, (Z, "x")),
            ((("odd", "even"), ()), moves, trees),
        ]:
            self.refused([], table)
            self.refused(LEMMAS, table)

    def test_no_lemmas(self):
        wrong = ("odd", "s", ((0, ()),), 1, ())
        for lemma in [
            ("odd", "s", ((2, ()),), 1, ()),
            ("odd", "s", (), 1, ()),
            ("odd", "t", (), 1, ()),
            ("odds", "z", (), 1, ()),
            ("odd", "s", ((0, ("odd",)),), 1, ()),
            ("odd", "s", ((0, ()),), 2, ()),
            ("odd", "s", ((0, ()),), -1, ()),
            ("odd", "s", ((0, ()),), 1, (("z", ()),)),
        ]:
            self.refused([lemma])
            self.refused(LEMMAS + [lemma])
            self.refused([wrong, lemma])

    def test_not_allowed_comes_first(self):
        rows, moves, trees = TABLE
        self.refused([("odd", "s", ((5, ()),), 1, ())], ((("even",), ("even",)), moves, trees[::-1]))

    def test_nothing_is_changed(self):
        lemmas = list(LEMMAS)
        before = copy.deepcopy(lemmas)
        judge_lemmas(EVEN, TABLE, lemmas)
        judge_table(EVEN, TABLE, lemmas)
        self.assertEqual(lemmas, before)


class JudgeTableTest(unittest.TestCase):
    def good(self, book, table, lemmas):
        self.assertEqual(told.broken_points(book, table, lemmas), [])
        self.assertIsNone(judge_table(book, table, lemmas))

    def broken(self, points, book, table, lemmas):
        check_table(book, table)
        self.assertTrue(all(is_lemma(book, table, lemma) for lemma in lemmas))
        self.assertEqual(told.broken_points(book, table, lemmas), points)
        with self.assertRaises(BadPaper):
            judge_table(book, table, lemmas)

    def test_example(self):
        self.good(EVEN, TABLE, LEMMAS)
        self.good(EVEN, TABLE, [FOURTH, THIRD, SECOND, FIRST, FIRST])
        self.broken([6], EVEN, TABLE, [SECOND, THIRD, FOURTH])

    def test_each_lemma_left_out(self):
        for index in range(4):
            self.broken([6], EVEN, TABLE, LEMMAS[:index] + LEMMAS[index + 1:])
        book = read_book(examples.FLOORS)
        table, lemmas = table_of(book), lemmas_of(book)
        self.good(book, table, lemmas)
        for index in range(len(lemmas)):
            shorter = lemmas[:index] + lemmas[index + 1:]
            if told.broken_points(book, table, shorter):
                self.broken([6], book, table, shorter)
            else:
                self.good(book, table, shorter)

    def test_lemmas_exchanged(self):
        book = read_book(examples.UP)
        table, lemmas = table_of(book), lemmas_of(book)
        for at in range(len(lemmas) - 1):
            exchanged = lemmas[:at] + [lemmas[at + 1], lemmas[at]] + lemmas[at + 2:]
            if told.right_told(book, table, exchanged):
                self.good(book, table, exchanged)
            else:
                self.broken([6], book, table, exchanged)
        self.broken([6], book, table, lemmas[::-1])

    def test_lemmas_twice(self):
        for text in [examples.EVEN, examples.UP, examples.ASIDE]:
            book = read_book(text)
            self.good(book, table_of(book), [lemma for lemma in lemmas_of(book) for _ in range(2)])

    def test_rows_that_are_the_same(self):
        book = book_of("m(x)")
        lemmas = [("m", word, (), 0, ()) for word in ["z", "o"]] + [("m", "s", ((row, ()),), 0, ()) for row in range(2)]
        self.broken([1], book, ((("m",), ("m",)), (0, 0, (1, 1)), (Z, ONE)), lemmas)
        self.good(book, ((("m",),), (0, 0, (0,)), (Z,)), lemmas[:3])

    def test_trees_that_have_another_row(self):
        book = book_of("m(s(x))")
        lemmas = [("m", "s", ((row, ()),), 0, ()) for row in range(2)]
        table = (((), ("m",)), (0, 0, (1, 1)), (Z, ONE))
        self.good(book, table, lemmas)
        self.broken([2], book, table[:2] + ((Z, ("o",)),), lemmas)

    def test_trees_that_are_not_in_order(self):
        rows, (leaf, (over, other)), trees = TABLE
        self.broken([3], EVEN, (rows[::-1], (1, (1, 0)), trees[::-1]), [
            FIRST,
            ("odd", "s", ((1, ("even",)),), 1, ()),
            ("even", "s", ((0, ("odd",)),), 2, ()),
            ("no", "s", ((1, ()),), 3, ()),
        ])

    def test_rows_in_any_other_order(self):
        """A table whose rows are numbered in another way, with its lemmas, is right but for the third point."""
        chooser = random.Random(38)
        texts = [examples.UP, examples.ASIDE, examples.FLOORS, examples.ROWS24, examples.SIZE400, *examples.GROWING,
                 "sign z 0\nsign o 0\nsign s 1\nsign t 1\nmark m 0\nmark n 0\nmark k 0\nm(z)\nn(o)\nk(s(x)) if m(x)\nm(t(x)) if k(x)\n"]
        for text in texts:
            book = read_book(text)
            table, lemmas = table_of(book), lemmas_of(book)
            many = len(table[0])
            orders = [chooser.sample(range(many), many) for _ in range(4)]
            for at in range(many - 1):
                orders.append([*range(at), at + 1, at, *range(at + 2, many)])
            orders.append([*range(1, many), 0])
            for order in orders:
                other, others = self.numbered_anew(table, lemmas, order)
                if order == list(range(many)):
                    self.assertIsNone(judge_table(book, other, others))
                    continue
                self.assertTrue(keeps_rules(book, other))
                self.assertIsNone(judge_lemmas(book, other, others))
                with self.assertRaises(BadPaper):
                    judge_table(book, other, others)

    def numbered_anew(self, table, lemmas, order):
        """The table and lemmas in which the rows stand in this order of their numbers."""
        new = {row: number for number, row in enumerate(order)}

        def entry(value):
            return new[value] if isinstance(value, int) else tuple(entry(value[row]) for row in order)

        rows, moves, trees = table
        shown = tuple(rows[row] for row in order), tuple(entry(value) for value in moves), tuple(trees[row] for row in order)
        return shown, [(*lemma[:2], tuple((new[row], own) for row, own in lemma[2]), *lemma[3:]) for lemma in lemmas]

    def test_trees_that_are_not_the_least(self):
        rows, moves, _ = TABLE
        self.broken([4], EVEN, (rows, moves, (Z, ("s", ("s", ONE)))), LEMMAS)
        book = read_book("sign z 0\nsign pair 2\nsign node 2\nmark m 0\nm(pair(x, y))\nm(node(x, y))\n")
        rows, moves, trees = table_of(book)
        self.assertEqual(trees, (Z, ("pair", Z, Z)))
        lemmas = lemmas_of(book)
        self.good(book, (rows, moves, trees), lemmas)
        self.broken([4], book, (rows, moves, (Z, ("node", Z, Z))), lemmas)
        self.broken([4], book, (rows, moves, (Z, ("pair", Z, ("pair", Z, Z)))), lemmas)

    def test_tables_that_do_not_keep_the_rules(self):
        book = book_of("m(x)")
        self.broken([5], book, (((),), (0, 0, (0,)), (Z,)), [])
        book = book_of("m(s(x)) if m(s(x))", "n(z)", "n(o)", "m(z) if n(u)")
        lemmas = [("n", "z", (), 1, ()), ("n", "o", (), 2, ())]
        self.broken([5], book, ((("n",), ()), (0, 0, (1, 1)), (Z, ONE)), lemmas)

    def test_tables_with_marks_that_do_not_follow(self):
        book = book_of("m(s(x)) if m(x)", "m(z) if m(o)", "m(o) if m(z)")
        table = ((("m",),), (0, 0, (0,)), (Z,))
        step = ("m", "s", ((0, ("m",)),), 0, ())
        self.broken([6], book, table, [])
        self.broken([6], book, table, [step])
        self.broken([6], book, table, [step, ("m", "z", (), 1, ()), ("m", "o", (), 2, ())])
        self.good(book, (((),), (0, 0, (0,)), (Z,)), [])

    def test_tables_of_books(self):
        chooser = random.Random(10)
        for _ in range(200):
            book = chance.some_book(chooser, 5, 14)
            self.assertIsNone(judge_table(book, table_of(book), lemmas_of(book)))

    def test_by_chance(self):
        chooser = random.Random(11)
        met = {}
        for _ in range(500):
            book = chance.some_book(chooser, 4, 8)
            table = table_of(book)
            lemmas = lemmas_of(book)
            if len(table[0]) > 4 or len(lemmas) > 40:
                continue
            table = self.changed(chooser, book, table)
            lemmas = [lemma for lemma in lemmas if is_lemma(book, table, lemma)]
            for _ in range(chooser.randrange(3)):
                lemmas.insert(chooser.randint(0, len(lemmas)), some_lemma(chooser, book, table))
            points = told.broken_points(book, table, lemmas)
            if points:
                self.broken(points, book, table, lemmas)
            else:
                self.good(book, table, lemmas)
            for point in points or [0]:
                met[point] = met.get(point, 0) + 1
        self.assertEqual(sorted(met), [0, 1, 2, 3, 4, 5, 6])

    def changed(self, chooser, book, table):
        """A table in which at most one thing is another one."""
        rows, moves, trees = map(list, table)
        at = chooser.randrange(len(rows))
        way = chooser.randrange(5)
        if way == 0:
            rows[at] = tuple(mark for mark, _ in book[1] if (mark in rows[at]) != (chooser.random() < 0.3))
        if way == 1:
            trees[at] = chooser.choice(trees)
        if way == 2:
            sign = chooser.randrange(len(moves))
            moves[sign] = self.changed_entry(chooser, moves[sign], len(rows))
        if way == 3 and book[0][0][1] < 2 and len(rows) > 1:
            trees[0], trees[-1] = trees[-1], trees[0]
        return tuple(rows), tuple(moves), tuple(trees)

    def changed_entry(self, chooser, entry, many):
        if isinstance(entry, int):
            return chooser.randrange(many)
        at = chooser.randrange(len(entry))
        return entry[:at] + (self.changed_entry(chooser, entry[at], many),) + entry[at + 1:]


class TimeTest(unittest.TestCase):
    def test_many_books_near_their_bounds(self):
        """Books with trees of about 400 signs, or 24 rows, which are asked all about their tables."""
        chooser = random.Random(13)
        texts = [examples.ROWS24, examples.ROWS25]
        while len(texts) < 60:
            sizes = [1]
            while sizes[-1] < 190 or len(sizes) < 9:
                sizes.append(sizes[-1] + 1 if chooser.random() < 0.3 or sizes[-1] > 205 else 2 * sizes[-1] + 1)
            sizes = [*sizes[:10], 2 * sizes[9] + 1] if sizes[9:10] and sizes[9] < 205 else sizes[:11]
            texts.append(examples.ladder(sizes))
        start = time.perf_counter()
        tables = 0
        for text in texts:
            book = read_book(text)
            try:
                table, lemmas = table_of(book), lemmas_of(book)
            except TooLarge:
                continue
            tables += 1
            tree = table[2][0]
            self.assertEqual((marks_of(book, tree), has(book, book[1][0][0], tree)), (table[0][0], book[1][0][0] in table[0][0]))
            for _ in range(2):
                self.assertTrue(keeps_rules(book, table))
                self.assertIsNone(judge_lemmas(book, table, lemmas))
                self.assertIsNone(judge_table(book, table, lemmas))
        self.assertGreater(tables, 30)
        self.assertLess(time.perf_counter() - start, 4)

    def test_largest_books(self):
        for text in [examples.LARGE_UP, examples.LARGE_ASIDE, examples.ROWS24]:
            book = read_book(text)
            table, lemmas = table_of(book), lemmas_of(book)
            start = time.perf_counter()
            self.assertIsNone(judge_table(book, table, lemmas))
            self.assertIsNone(judge_lemmas(book, table, lemmas))
            self.assertLess(time.perf_counter() - start, 15)
            with self.assertRaises(BadPaper):
                judge_table(book, table, lemmas[1:])


if __name__ == "__main__":
    unittest.main()
