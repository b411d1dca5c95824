import random
import time
import unittest

import chance
import examples
from pergola.alike import part
from pergola.bookreader import read_book
from pergola.books import check_rule
from pergola.bookwriter import book_text, rule_text
from pergola.errors import BadForm, Broken, Missing, NotAllowed, TooLarge
from pergola.order import trees_of
from pergola.sayings import free_names, holds
from pergola.sayingtexts import saying_text
from pergola.store import MAX_IMAGE, MAX_KEPT, MAX_NUMBER, Store, load_store
from pergola.table import marks_of, table_of
from pergola.terms import size_of

SIGNS = (("z", 0), ("s", 1))
MARKS = (("even", 0), ("odd", 0))
Z = ("z",)
EVEN = ("even", Z, ())
ODD_NEXT = ("odd", ("s", "x"), ((True, "even", "x"),))
EVEN_NEXT = ("even", ("s", "x"), ((True, "odd", "x"),))
NEVER_BOTH = ("not", ("some", "x", ("and", ("at", "even", "x"), ("at", "odd", "x"))))
EITHER = ("all", "x", ("or", ("at", "even", "x"), ("at", "odd", "x")))
TRUE = ("not", ("at", "odd", Z))

IMAGE = """store 4 2
sign z 0
sign s 1
mark even 0
mark odd 0
rule 1 even(z)
rule 2 odd(s(x)) if even(x)
rule 3 even(s(x)) if odd(x)
keep 1 not some x (even(x) and odd(x))
"""


def told(store):
    """All that a store tells of itself."""
    return store.book(), store.rules(), store.kept(), store.changes(), store.image()


class StoreCase(unittest.TestCase):
    def refused(self, error, function, *arguments):
        with self.assertRaises(error) as caught:
            function(*arguments)
        return caught.exception

    def kept_as_it_is(self, error, store, function, *arguments):
        before = told(store)
        caught = self.refused(error, function, *arguments)
        self.assertEqual(told(store), before)
        return caught

    def even_store(self):
        store = Store(SIGNS, MARKS)
        store.change([], [EVEN, ODD_NEXT, EVEN_NEXT])
        return store


class StoreTest(StoreCase):
    def test_examples(self):
        store = Store(SIGNS, MARKS)
        self.assertEqual(store.change([], [EVEN, ODD_NEXT]), [1, 2])
        self.assertEqual(store.keep(NEVER_BOTH), 1)
        self.assertEqual(self.kept_as_it_is(Broken, store, store.add, ("even", "x", ())).number, 1)
        self.assertEqual(store.add(EVEN_NEXT), 3)
        self.assertEqual((store.row(("s", ("s", Z))), store.since(2)), (("even",), ("s", ("s", Z))))
        self.assertIsNone(store.undo())
        self.assertEqual((store.changes(), store.rules()[-1][0]), (2, 2))

    def test_new_stores(self):
        store = Store(SIGNS, MARKS)
        self.assertEqual(told(store)[:4], ((SIGNS, MARKS, ()), [], [], 0))
        self.assertEqual(store.row(("s", Z)), ())
        for signs, marks in [((), MARKS), (SIGNS, ()), ((("s", 1),), MARKS), (SIGNS, (("z", 0),)), (SIGNS, (("even", 3),)), (SIGNS[:1] * 2, MARKS)]:
            self.refused(NotAllowed, Store, signs, marks)
        self.assertEqual((MAX_KEPT, MAX_NUMBER, MAX_IMAGE), (8, 999999, 60000))

    def test_two_stores(self):
        one, other = Store(SIGNS, MARKS), Store(SIGNS, MARKS)
        one.add(EVEN)
        one.keep(TRUE)
        self.assertEqual((other.rules(), other.kept(), other.changes()), ([], [], 0))

    def test_returned_lists(self):
        store = self.even_store()
        store.keep(TRUE)
        before = told(store)
        for function in [store.rules, store.kept]:
            function().clear()
        self.assertEqual(told(store), before)
        numbers, rules = [2], [ODD_NEXT]
        store.change(numbers, rules).clear()
        self.assertEqual((numbers, rules), ([2], [ODD_NEXT]))
        rules.clear()
        self.assertEqual(store.rules(), [(1, EVEN), (3, EVEN_NEXT), (4, ODD_NEXT)])


class ChangeTest(StoreCase):
    def test_numbers(self):
        """Numbers are not given again, unless the change that gave them is taken back."""
        store = Store(SIGNS, MARKS)
        self.assertEqual(store.add(EVEN), 1)
        self.assertIsNone(store.drop(1))
        self.assertEqual(store.add(EVEN), 2)
        self.assertEqual(store.change([2], [ODD_NEXT, EVEN]), [3, 4])
        self.assertEqual(store.rules(), [(3, ODD_NEXT), (4, EVEN)])
        store.undo()
        self.assertEqual(store.rules(), [(2, EVEN)])
        self.assertEqual(store.change([], [EVEN_NEXT]), [3])
        self.assertEqual(store.book()[2], (EVEN, EVEN_NEXT))
        store.drop(2)
        store.undo()
        self.assertEqual(store.rules(), [(2, EVEN), (3, EVEN_NEXT)])
        self.assertEqual(store.add(EVEN), 4)
        self.assertEqual(store.change([4, 2], []), [])
        self.assertEqual(store.rules(), [(3, EVEN_NEXT)])

    def test_the_same_rule_twice(self):
        store = Store(SIGNS, MARKS)
        self.assertEqual(store.change([], [EVEN, EVEN]), [1, 2])
        store.drop(1)
        self.assertEqual((store.rules(), store.row(Z)), ([(2, EVEN)], ("even",)))

    def test_empty_change(self):
        store = self.even_store()
        self.assertEqual(store.change([], []), [])
        self.assertEqual(store.changes(), 2)
        store.undo()
        self.assertEqual(store.changes(), 1)

    def test_missing(self):
        store = self.even_store()
        for numbers in [[0], [4], [-1], [1, 1], [1, 2, 1], [1, 4], [999999]]:
            self.kept_as_it_is(Missing, store, store.change, numbers, [])
            self.kept_as_it_is(Missing, store, store.change, numbers, [("no", Z, ())])
        self.kept_as_it_is(Missing, store, store.drop, 4)
        store.drop(2)
        self.kept_as_it_is(Missing, store, store.drop, 2)

    def test_no_rules(self):
        store = self.even_store()
        for rule in [("no", Z, ()), ("even", ("s", Z), ()), ("even", "s", ()), ("even", ("s", "x", "y"), ()), ("even", (), ()),
                     ("even", "x", ((False, "odd", "x"),)), ("even", "x", ((True, "odd", "u"), (True, "odd", "v"))),
                     ("even", "x", ((True, "odd", "x"),) * 5), ("even", "x", ((True, "odd", ("s",) * 2),))]:
            self.kept_as_it_is(NotAllowed, store, store.add, rule)
            self.kept_as_it_is(NotAllowed, store, store.change, [1], [EVEN, rule])
            self.kept_as_it_is(NotAllowed, store, store.change, [], [EVEN] * 24 + [rule])

    def test_too_many_rules(self):
        store = self.even_store()
        self.assertEqual(store.change([], [EVEN] * 21)[-1], 24)
        self.kept_as_it_is(TooLarge, store, store.add, EVEN)
        self.assertEqual(store.change([24], [EVEN]), [25])
        self.kept_as_it_is(TooLarge, store, store.change, [1], [EVEN] * 2)
        self.kept_as_it_is(Missing, store, store.change, [24], [EVEN] * 2)

    def test_too_large_tables(self):
        for text in [examples.ROWS25, examples.SIZE401]:
            signs, marks, rules = read_book(text)
            store = Store(signs, marks)
            self.kept_as_it_is(TooLarge, store, store.change, [], list(rules))
            self.assertEqual(store.changes(), 0)
            many = 0
            for rule in rules:
                try:
                    store.add(rule)
                    many += 1
                except TooLarge:
                    break
            self.assertLess(many, len(rules))
            self.assertEqual((store.changes(), len(store.rules())), (many, many))
        signs, marks, rules = read_book(examples.ROWS25)
        store = Store(signs, marks)
        # What would be too large comes before what would be broken.
        store.keep(("not", ("some", "x", ("at", "pa", "x"))))
        self.kept_as_it_is(TooLarge, store, store.change, [], list(rules))
        self.assertEqual(self.kept_as_it_is(Broken, store, store.add, rules[0]).number, 1)

    def test_broken(self):
        store = self.even_store()
        self.assertEqual([store.keep(saying) for saying in [TRUE, EITHER, NEVER_BOTH]], [1, 2, 3])
        self.assertEqual(self.kept_as_it_is(Broken, store, store.drop, 3).number, 2)
        self.assertEqual(self.kept_as_it_is(Broken, store, store.add, ("odd", Z, ())).number, 1)
        self.assertEqual(self.kept_as_it_is(Broken, store, store.add, ("odd", ("s", "x"), ())).number, 3)
        store.let(1)
        self.assertEqual(self.kept_as_it_is(Broken, store, store.add, ("odd", Z, ())).number, 3)
        self.assertEqual(store.change([3], [EVEN_NEXT]), [4])
        self.kept_as_it_is(TooLarge, store, store.change, [4], [EVEN] * 23)

    def test_kept_sayings(self):
        store = Store(SIGNS, MARKS)
        self.assertEqual([store.keep(TRUE) for _ in range(8)], list(range(1, 9)))
        self.kept_as_it_is(TooLarge, store, store.keep, TRUE)
        self.kept_as_it_is(TooLarge, store, store.keep, ("at", "odd", Z))
        self.kept_as_it_is(NotAllowed, store, store.keep, ("at", "odd", "x"))
        self.assertIsNone(store.let(3))
        self.assertEqual([number for number, _ in store.kept()], [1, 2, 4, 5, 6, 7, 8])
        self.assertEqual(store.keep(TRUE), 9)
        store.undo()
        self.assertEqual(self.kept_as_it_is(Broken, store, store.keep, ("at", "odd", Z)).number, 9)
        self.assertEqual(store.keep(NEVER_BOTH), 9)
        self.assertEqual(store.kept()[-1], (9, NEVER_BOTH))

    def test_no_sayings(self):
        store = self.even_store()
        for saying in [("at", "no", Z), ("at", "even"), (), "even", ("not",), ("all", "z", TRUE), ("at", "even", ("s", "s")),
                       ("all", "x", ("all", "y", ("all", "u", ("all", "v", ("all", "w", TRUE))))),
                       ("at", "even", "x"), ("and", TRUE, ("at", "even", "x")), ("some", "x", ("at", "even", "y"))]:
            self.kept_as_it_is(NotAllowed, store, store.keep, saying)

    def test_let(self):
        store = self.even_store()
        store.keep(TRUE)
        for number in [0, 2, -1, 999999]:
            self.kept_as_it_is(Missing, store, store.let, number)
        self.assertIsNone(store.let(1))
        self.kept_as_it_is(Missing, store, store.let, 1)
        self.assertEqual(store.keep(TRUE), 2)
        store.undo()
        store.undo()
        self.assertEqual(store.kept(), [(1, TRUE)])

    def test_undo(self):
        store = Store(SIGNS, MARKS)
        self.kept_as_it_is(Missing, store, store.undo)
        points = []
        for change in [lambda: store.add(EVEN), lambda: store.keep(TRUE), lambda: store.add(ODD_NEXT), lambda: store.change([1], [EVEN]),
                       lambda: store.let(1), lambda: store.change([], []), lambda: store.drop(2), lambda: store.keep(NEVER_BOTH)]:
            points.append(told(store))
            change()
        self.assertEqual(store.changes(), 8)
        for point in points[::-1]:
            store.undo()
            self.assertEqual(told(store), point)
        self.kept_as_it_is(Missing, store, store.undo)

    def test_great_numbers(self):
        start = "sign z 0\nsign s 1\nmark even 0\nmark odd 0\n"
        store = load_store("store 999998 999999\n" + start)
        self.kept_as_it_is(TooLarge, store, store.change, [], [EVEN] * 3)
        self.assertEqual(store.change([], [EVEN] * 2), [999998, 999999])
        self.assertEqual(store.keep(TRUE), 999999)
        self.assertEqual(store.image().split("\n")[0], "store 1000000 1000000")
        self.kept_as_it_is(TooLarge, store, store.add, EVEN)
        self.kept_as_it_is(TooLarge, store, store.change, [999998], [EVEN])
        self.kept_as_it_is(TooLarge, store, store.keep, TRUE)
        self.kept_as_it_is(NotAllowed, store, store.keep, ("at", "even", "x"))
        self.assertEqual(store.change([999998], []), [])
        again = load_store(store.image())
        self.assertEqual(told(again)[1:3], ([(999999, EVEN)], [(999999, TRUE)]))
        self.kept_as_it_is(TooLarge, again, again.add, EVEN)
        store.undo()
        store.undo()
        store.undo()
        self.assertEqual(store.add(EVEN), 999998)


class SinceTest(StoreCase):
    def test_each_point(self):
        store = Store(SIGNS, MARKS)
        self.assertIsNone(store.since(0))
        store.add(EVEN)
        store.add(ODD_NEXT)
        store.keep(TRUE)
        store.add(EVEN_NEXT)
        s = ("s", Z)
        self.assertEqual([store.since(point) for point in range(5)], [Z, s, ("s", s), ("s", s), None])
        for point in [-1, 5, 6, 100]:
            self.refused(NotAllowed, store.since, point)
        store.change([1, 2, 3], [EVEN, ODD_NEXT, EVEN_NEXT])
        self.assertEqual([store.since(point) for point in range(6)], [Z, s, ("s", s), ("s", s), None, None])
        store.undo()
        store.undo()
        self.assertEqual([store.since(point) for point in range(4)], [Z, s, None, None])
        self.refused(NotAllowed, store.since, 4)

    def test_sizes_400_and_401(self):
        for sizes, last in [([1, 2, 5, 11, 23, 24, 49, 99, 199, 399], "s"), ([1, 2, 5, 11, 23, 24, 49, 99, 199, 200], "pair")]:
            book = read_book(examples.ladder(sizes))
            store = Store(*book[:2])
            store.change([], list(book[2]))
            names = ["x"] if last == "s" else ["x", "y"]
            top = [mark for mark, _, _ in book[2][-2:]]
            body = tuple((True, mark, name) for name in names for mark in top)
            store.change([], [(mark, (last, *names), body) for mark in ("ma", "mb")])
            if last == "s":
                self.assertEqual(size_of(store.since(1)), 400)
            else:
                self.refused(TooLarge, store.since, 1)
            self.assertIsNone(store.since(2))
            self.assertEqual(store.since(0), Z)

    def test_chance(self):
        chooser = random.Random(73)
        for _ in range(25):
            signs, marks, _ = chance.some_book(chooser)
            store = Store(signs, marks)
            books = [store.book()]
            for _ in range(6):
                rule = chance.some_rule(chooser, signs, marks, chooser.choice(marks))
                numbers = [number for number, _ in store.rules() if chooser.random() < 0.2]
                try:
                    check_rule(signs, marks, rule)
                    store.change(numbers, [rule])
                    books.append(store.book())
                except (NotAllowed, TooLarge):
                    pass
            pairs = [(mark, mark) for mark, _ in marks]
            for point, book in enumerate(books):
                self.assertEqual(store.since(point), part(book, store.book(), pairs))
            for tree in [tree for size in range(1, 4) for tree in trees_of(signs, size)][:20]:
                self.assertEqual(store.row(tree), marks_of(store.book(), tree))


class ImageTest(StoreCase):
    def bad(self, text, line):
        self.assertEqual(self.refused(BadForm, load_store, text).line, line, text)

    def bad_line(self, row, at):
        """A line in the place of the one with a number is bad."""
        lines = IMAGE.split("\n")
        lines[at - 1] = row
        self.bad("\n".join(lines), at)

    def test_image(self):
        store = self.even_store()
        store.keep(NEVER_BOTH)
        self.assertEqual(store.image(), IMAGE)
        again = load_store(IMAGE)
        self.assertEqual(told(again), (*told(store)[:3], 0, IMAGE))
        self.refused(Missing, again.undo)
        self.assertIsNone(again.since(0))
        self.assertEqual((again.add(EVEN), again.keep(TRUE), again.changes()), (4, 2, 2))
        self.assertEqual(Store(SIGNS, MARKS).image(), "store 1 1\nsign z 0\nsign s 1\nmark even 0\nmark odd 0\n")

    def test_chance(self):
        chooser = random.Random(75)
        tried = 0
        while tried < 60:
            book = chance.some_book(chooser, 4, 12)
            store = Store(*book[:2])
            try:
                store.change([], list(book[2]))
            except TooLarge:
                continue
            for _ in range(6):
                saying = chance.some_saying(chooser, book, [], 12, 3)
                if not free_names(saying) and holds(store.book(), saying, {}):
                    store.keep(saying)
            for number, _ in store.rules():
                try:
                    if chooser.random() < 0.3:
                        store.drop(number)
                except (Broken, TooLarge):
                    pass
            for number, _ in store.kept():
                if chooser.random() < 0.3:
                    store.let(number)
            again = load_store(store.image())
            self.assertEqual(told(again), (*told(store)[:3], 0, store.image()))
            for function, thing in [("add", ("ma", "x", ())), ("keep", ("not", ("not", ("or", ("at", "ma", "x"), ("not", ("at", "ma", "x"))))))]:
                if function == "keep":
                    thing = ("all", "x", thing)
                results = []
                for one in (store, again):
                    try:
                        results.append(getattr(one, function)(thing))
                    except (Broken, TooLarge) as error:
                        results.append(type(error))
                self.assertEqual(results[0], results[1])
            tried += 1

    def test_plain_form_alone(self):
        rows = IMAGE.split("\n")[:-1]
        for at, row in enumerate(rows, start=1):
            for other in [f" {row}", f"{row} ", row.replace(" ", "  ", 1), f"{row}\n", row[:-1], row.replace(" ", "", 1), "", " ", row.upper(),
                          f"{row},", f"{row} 0", row.replace(" ", " 0", 1)]:
                lines = [*rows[:at - 1], other, *rows[at:]]
                if other == f"{row}\n":
                    self.bad("\n".join(lines) + "\n", at + 1)
                else:
                    self.bad("\n".join(lines) + "\n", at)
        for at in [6, 7, 8, 9]:
            self.bad_line(rows[at - 1].replace("(x)", "( x)").replace("(z)", "(z )"), at)
        self.bad_line("rule 2 odd(s(x)) if  even(x)", 7)
        self.bad_line("rule 2 odd(s(x))if even(x)", 7)
        self.bad_line("keep 1 not (some x (even(x) and odd(x)))", 9)
        self.bad_line("keep 1 not some x ((even(x)) and odd(x))", 9)

    def test_the_last_newline(self):
        self.bad(IMAGE[:-1], 9)
        self.bad(IMAGE + "keep", 10)
        self.bad(IMAGE + "\n", 10)
        self.bad(IMAGE + " ", 10)
        self.bad("store 1 1", 1)
        self.bad("x" + IMAGE[:-1], 1)

    def test_numbers_of_the_store(self):
        for row in ["store", "store 1", "store 1 1 1", "store 0 1", "store 1 0", "store 01 1", "store 1 01", "store 1000001 1", "store 1 1000001",
                    "store -1 1", "store 1 x", "store x 1", "store 10000000 1", "store 1  1", "store 1 1,", "sign z 0", "mark even 0", "stores 1 1",
                    "store 1" + "0" * 60 + " 1", "store  1", "store 1 "]:
            self.bad_line(row, 1)
        self.bad_line("store 1" + "0" * 9000 + " 1", 1)
        self.bad_line("rule 1" + "0" * 9000 + " even(z)", 6)
        for first, second in [(4, 2), (1000000, 1000000), (5, 999999)]:
            store = load_store(IMAGE.replace("store 4 2", f"store {first} {second}"))
            self.assertEqual(store.image(), IMAGE.replace("store 4 2", f"store {first} {second}"))

    def test_numbers_of_rules_and_sayings(self):
        for number in ["0", "00", "01", "-1", "", "x", "4", "5", "1000000", "10000000", "1 1"]:
            self.bad_line(f"rule {number} even(z)", 6)
        for number in ["1", "0", "4"]:
            self.bad_line(f"rule {number} odd(s(x)) if even(x)", 7)
        for number in ["2", "1", "4", "03"]:
            self.bad_line(f"rule {number} even(s(x)) if odd(x)", 8)
        self.bad(IMAGE.replace("rule 2", "rule 3"), 8)
        for number in ["0", "2", "3", "01"]:
            self.bad_line(f"keep {number} not odd(z)", 9)
        self.bad(IMAGE.replace("store 4 2", "store 3 2"), 8)
        self.bad(IMAGE.replace("store 4 2", "store 1 2"), 6)
        self.bad(IMAGE.replace("store 4 2", "store 4 1"), 9)
        many = IMAGE.replace("store 4 2", "store 4 9").replace("keep 1", "keep 5")
        self.bad(many + "keep 5 not odd(z)\n", 10)
        self.bad(many + "keep 4 not odd(z)\n", 10)
        self.bad(many + "keep 9 not odd(z)\n", 10)
        self.assertEqual(load_store(many + "keep 8 not odd(z)\n").kept(), [(5, NEVER_BOTH), (8, TRUE)])

    def test_order_of_lines(self):
        rows = IMAGE.split("\n")[:-1]
        for row in rows:
            for at in range(len(rows) + 1):
                lines = [other for other in rows if other != row]
                lines.insert(at, row)
                if lines == rows:
                    continue
                kinds = [line.split(" ")[0] for line in lines]
                if kinds == [line.split(" ")[0] for line in rows] and kinds.count("rule") == 3 and row.split(" ")[0] in ("sign", "mark"):
                    self.assertEqual(load_store("\n".join(lines) + "\n").kept(), [(1, NEVER_BOTH)])
                else:
                    self.refused(BadForm, load_store, "\n".join(lines) + "\n")
        self.bad(IMAGE + rows[0] + "\n", 10)
        self.bad(IMAGE + "sign t 0\n", 10)
        self.bad(IMAGE + "mark no 0\n", 10)
        self.bad(IMAGE + "rule 3 even(z)\n", 10)
        self.bad("\n".join([*rows[:4], "sign t 0", *rows[4:]]) + "\n", 5)
        self.bad("\n".join([*rows[:6], "mark no 0", *rows[6:]]) + "\n", 7)
        self.bad("\n".join([*rows[:5], "keep 1 not odd(z)", "mark no 0"]) + "\n", 7)
        self.bad("\n".join([*rows[:5], "keep 1 not odd(z)", "rule 1 even(z)"]) + "\n", 7)

    def test_words(self):
        for row in ["sign z 3", "sign if 0", "sign abcdefghi 0", "sign Z 0", "sign z", "sign z -1", "sign z 00", "sign z0"]:
            self.bad_line(row, 2)
        self.bad_line("sign z 1", 3)
        for row in ["mark even 3", "mark z 0", "mark s 1", "mark not 0", "mark even", "mark even 01", "marks even 0"]:
            self.bad_line(row, 4)
        self.bad_line("mark even 1", 5)
        start = "store 1 1\nsign z 0\nsign s 1\nsign t 1\nsign w 2\n"
        self.bad(start + "sign o 0\n", 6)
        marks = "".join(f"mark m{letter} 0\n" for letter in "abcdef")
        self.assertEqual(len(load_store(start + marks).book()[1]), 6)
        self.bad(start + marks + "mark mg 0\n", 12)
        none = "store 1 1\nsign s 1\nsign t 1\nsign w 2\nsign pair 2\n"
        self.bad(none + "mark even 0\n", 6)
        self.bad(none[:-len("sign pair 2\n")] + "mark even 0\nsign z 0\n", 5)
        self.bad("store 1 1\nmark even 0\n", 2)

    def test_rules_and_sayings(self):
        for row in ["rule 1 no(z)", "rule 1 even(s(z))", "rule 1 even(z) if not even(z)", "rule 1", "rule 1 ", "rule", "rule even(z)", "rule 1 even",
                    "rule 1 even(x) if odd(u), odd(v)", "rules 1 even(z)", "keep 1 even(x", "keep 1 even(x)", "keep 1 some x even(y)", "keep 1 no(z)",
                    "keep 1", "keep", "keep 1 ", "keep even(z)", "x", "rule 1 even(z)x"]:
            self.bad_line(row, 6)
        self.bad_line("keep 1 even(x)", 9)
        self.bad_line("keep 1 all x even(y)", 9)
        self.bad_line("keep 1 some z even(z)", 9)
        start = "store 100 100\nsign z 0\nsign s 1\n"
        self.bad(start + "rule 1 even(z)\n", 4)
        self.bad(start + "keep 1 even(z)\n", 4)

    def test_too_many(self):
        start = "store 100 100\nsign z 0\nmark even 0\n"
        rules = [f"rule {number} even(z)\n" for number in range(1, 26)]
        self.assertEqual(len(load_store(start + "".join(rules[:24])).rules()), 24)
        self.bad(start + "".join(rules), 28)
        kept = [f"keep {number} not even(z)\n" for number in range(1, 10)]
        self.assertEqual(len(load_store(start + "".join(kept[:8])).kept()), 8)
        self.bad(start + "".join(kept), 12)

    def test_no_mark(self):
        self.bad("", 1)
        self.bad("store 1 1\n", 2)
        self.bad("store 1 1\nsign z 0\nsign s 1\n", 4)
        self.bad("store 1 1\nsign z 0\nsign s 1\nmark even 0", 4)

    def test_length(self):
        line = IMAGE.split("\n")[-2] + "\n"
        self.bad(IMAGE + line * ((60000 - len(IMAGE)) // len(line)), 10)
        fill = "x" * (60000 - len(IMAGE) - 1) + "\n"
        self.bad(IMAGE + fill, 10)
        self.bad(IMAGE + "x" + fill, 0)
        self.bad("x" * 60001, 0)
        self.bad("x" * 60000, 1)
        self.bad("\n" * 60000, 1)

    def test_behind_good_lines(self):
        """TooLarge, and behind it Broken, come where all lines are good."""
        for text in [examples.ROWS25, examples.SIZE401]:
            rows = book_text(read_book(text)).split("\n")[:-1]
            rules = [row for row in rows if not row.startswith(("sign", "mark"))]
            lines = [row for row in rows if row.startswith(("sign", "mark"))]
            mark = [row for row in lines if row.startswith("mark")][0].split(" ")[1]
            image = "store 100 100\n" + "".join(f"{row}\n" for row in lines)
            image += "".join(f"rule {number} {rule}\n" for number, rule in enumerate(rules, start=1))
            kept = f"keep 7 not some x {mark}(x)\n"
            self.refused(TooLarge, load_store, image)
            self.refused(TooLarge, load_store, image + kept)
            self.bad(image + kept + "x\n", image.count("\n") + 2)
            self.bad(image + kept[:-1], image.count("\n") + 1)
        more = IMAGE.replace("store 4 2", "store 4 20")
        self.assertEqual(self.refused(Broken, load_store, more + "keep 5 odd(z)\nkeep 9 even(s(z))\n").number, 5)
        self.assertEqual(self.refused(Broken, load_store, more + "keep 4 even(z)\nkeep 9 even(s(z))\n").number, 9)
        self.bad(more + "keep 4 odd(z)\nkeep 9 even(s(x))\n", 11)

    def test_image_of_the_largest(self):
        book = read_book(examples.LARGE_ASIDE)
        store = Store(*book[:2])
        store.change([], list(book[2]))
        inner = ("at", "ma", ("pair", ("node", "x", "y"), "u"))
        for number in range(11):
            leaf = ("at", f"m{'abcdef'[number % 6]}", ("node", ("pair", "v", ["x", "u"][number % 2]), "y"))
            inner = (["and", "or"][number % 2], inner, leaf)
        half = ("all", "x", ("some", "y", ("all", "u", ("some", "v", inner))))
        wide = ("or", half, ("not", half))
        either = ("or", ("not", ("all", "x", ("some", "y", ("all", "u", ("some", "v", ("at", "ma", "v")))))), ("all", "x", TRUE_LARGE))
        start = time.perf_counter()
        for saying in [either, *[wide] * 7]:
            store.keep(saying)
        store.change([1], [book[2][0]])
        image = store.image()
        self.assertEqual(load_store(image).image(), image)
        self.assertEqual(saying_text(wide), store.image().split("\n")[-2].split(" ", 2)[2])
        self.assertIn(rule_text(book[2][3]), image)
        self.assertEqual(table_of(store.book()), table_of(load_store(image).book()))
        self.assertLess(time.perf_counter() - start, 30)


TRUE_LARGE = ("or", ("at", "ma", "x"), ("not", ("at", "ma", "x")))


if __name__ == "__main__":
    unittest.main()
