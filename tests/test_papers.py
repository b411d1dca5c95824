import random
import time
import unittest

import chance
import examples
import told
from pergola.bookreader import read_book
from pergola.errors import BadPaper, Missing, TooLarge
from pergola.papers import MAX_PAPER, judge_paper, paper_of
from pergola.sayings import check_saying, free_names, holds
from pergola.table import table_of

TEXT = "sign z 0\nsign s 1\nmark even 0\nmark odd 0\neven(z)\nodd(s(x)) if even(x)\neven(s(x)) if odd(x)\n"
BOOK = read_book(TEXT)
EVEN = ("at", "even", "x")
ODD = ("at", "odd", "x")
ZERO = {"x": ("z",)}
EITHER = ("all", "x", ("or", EVEN, ODD))
BEYOND = read_book(examples.ROWS25)
ROWS24 = read_book(examples.ROWS24)


def negated(saying):
    return ("not", saying)


def is_paper(book, table, saying, rows, yes, paper):
    """Whether a tuple is a paper, as [4.7] tells it."""
    kind = saying[0]
    if kind == "at":
        return paper == () and told.holds_told(book, table, saying, rows) == yes
    if kind == "not":
        return is_paper(book, table, saying[1], rows, not yes, paper)
    if not isinstance(paper, tuple) or not paper:
        return False
    every = range(len(table[0]))
    if kind in ("and", "or"):
        if (kind == "and") == yes:
            if len(paper) != 3 or paper[0] != "both":
                return False
            return all(is_paper(book, table, part, rows, yes, inner) for part, inner in zip(saying[1:], paper[1:]))
        if len(paper) != 3 or paper[0] != "one" or paper[1] not in (0, 1):
            return False
        return is_paper(book, table, saying[1 + paper[1]], rows, yes, paper[2])
    inside = [{**rows, saying[1]: row} for row in every]
    if (kind == "all") == yes:
        if len(paper) != 1 + len(every) or paper[0] != "each":
            return False
        return all(is_paper(book, table, saying[2], inner, yes, part) for inner, part in zip(inside, paper[1:]))
    if len(paper) != 3 or paper[0] != "take" or paper[1] not in every:
        return False
    return is_paper(book, table, saying[2], inside[paper[1]], yes, paper[2])


def least_paper(book, table, saying, rows, yes):
    """The paper with the least numbers, and None if there is none."""
    kind = saying[0]
    if kind == "at":
        return () if told.holds_told(book, table, saying, rows) == yes else None
    if kind == "not":
        return least_paper(book, table, saying[1], rows, not yes)
    if kind in ("and", "or"):
        found = [least_paper(book, table, part, rows, yes) for part in saying[1:]]
    else:
        inside = [{**rows, saying[1]: row} for row in range(len(table[0]))]
        found = [least_paper(book, table, saying[2], inner, yes) for inner in inside]
    if (kind in ("and", "all")) == yes:
        return None if None in found else ("both" if kind in ("and", "or") else "each", *found)
    for number, paper in enumerate(found):
        if paper is not None:
            return ("one" if kind in ("and", "or") else "take", number, paper)
    return None


def size_of_paper(paper):
    return 1 + sum(size_of_paper(part) for part in paper if isinstance(part, tuple))


def changed_papers(paper):
    """Many values like a paper, each with one change somewhere."""
    yield (*paper, ())
    yield (*paper, 0)
    if not paper:
        yield ("one", 0, ())
        yield ("both", (), ())
        yield ("each",)
        return
    yield ()
    yield paper[:-1]
    yield paper[1:] if len(paper) > 1 and isinstance(paper[1], tuple) and paper[1][:1] != () else ("", *paper[1:])
    for word in ["both", "one", "each", "take", "", "at", "all"]:
        if word != paper[0]:
            yield (word, *paper[1:])
    for at, part in enumerate(paper):
        if isinstance(part, int):
            for number in [part - 1, part + 1, -1, 2, 24, ()]:
                yield (*paper[:at], number, *paper[at + 1:])
        if isinstance(part, tuple):
            yield (*paper[:at], 0, *paper[at + 1:])
            for inner in changed_papers(part):
                yield (*paper[:at], inner, *paper[at + 1:])


class PaperTest(unittest.TestCase):
    def shown(self, saying, filling, yes, paper, book=BOOK):
        self.assertEqual(paper_of(book, saying, filling), (yes, paper))
        self.assertIsNone(judge_paper(book, saying, filling, yes, paper))
        with self.assertRaises(BadPaper):
            judge_paper(book, saying, filling, not yes, paper)

    def refused(self, saying, filling, yes, paper, book=BOOK):
        with self.assertRaises(BadPaper):
            judge_paper(book, saying, filling, yes, paper)

    def test_examples(self):
        self.shown(EITHER, {}, True, ("each", ("one", 0, ()), ("one", 1, ())))
        self.refused(EITHER, {}, True, ("each", ("one", 0, ()), ("one", 0, ())))

    def test_each_kind(self):
        self.shown(EVEN, ZERO, True, ())
        self.shown(ODD, ZERO, False, ())
        self.shown(negated(ODD), ZERO, True, ())
        self.shown(negated(negated(ODD)), ZERO, False, ())
        self.shown(("and", EVEN, EVEN), ZERO, True, ("both", (), ()))
        self.shown(("and", EVEN, ODD), ZERO, False, ("one", 1, ()))
        self.shown(("and", ODD, EVEN), ZERO, False, ("one", 0, ()))
        self.shown(("and", ODD, ODD), ZERO, False, ("one", 0, ()))
        self.shown(("or", ODD, ODD), ZERO, False, ("both", (), ()))
        self.shown(("or", EVEN, EVEN), ZERO, True, ("one", 0, ()))
        self.shown(("or", ODD, EVEN), ZERO, True, ("one", 1, ()))
        self.shown(("all", "x", ("at", "even", "y")), {"y": ("z",)}, True, ("each", (), ()))
        self.shown(("all", "x", EVEN), {}, False, ("take", 1, ()))
        self.shown(("all", "x", ("and", EVEN, ODD)), {}, False, ("take", 0, ("one", 1, ())))
        self.shown(("some", "x", ODD), {}, True, ("take", 1, ()))
        self.shown(("some", "x", ("or", EVEN, ODD)), {}, True, ("take", 0, ("one", 0, ())))
        self.shown(("some", "x", ("and", EVEN, ODD)), {}, False, ("each", ("one", 1, ()), ("one", 0, ())))
        self.shown(negated(("and", EVEN, negated(("some", "x", ODD)))), ZERO, True, ("one", 1, ("take", 1, ())))

    def test_names(self):
        """A quantifier may use a name that is free elsewhere, or that an outer one uses."""
        self.shown(("and", EVEN, ("some", "x", ODD)), ZERO, True, ("both", (), ("take", 1, ())))
        inner = ("and", ODD, ("some", "x", EVEN))
        self.shown(("some", "x", inner), {}, True, ("take", 1, ("both", (), ("take", 0, ()))))
        self.shown(("some", "x", ("all", "x", ("some", "y", EVEN))), {}, False, ("each",) + (("take", 1, ("each", (), ())),) * 2)
        self.shown(("at", "odd", ("s", "x")), {"x": ("z",), "y": ("s", ("z",))}, True, ())
        deep = ("z",)
        for _ in range(99):
            deep = ("s", deep)
        self.shown(("some", "y", ("and", ODD, ("at", "odd", ("s", "y")))), {"x": deep}, True, ("take", 0, ("both", (), ())))

    def test_right_papers_that_are_not_the_paper(self):
        both = ("or", EVEN, EVEN)
        self.assertIsNone(judge_paper(BOOK, both, ZERO, True, ("one", 1, ())))
        saying = ("all", "x", ("some", "y", ("or", ("at", "even", "y"), ("at", "odd", "y"))))
        self.shown(saying, {}, True, ("each",) + (("take", 0, ("one", 0, ())),) * 2)
        other = ("each", ("take", 1, ("one", 1, ())), ("take", 0, ("one", 0, ())))
        self.assertIsNone(judge_paper(BOOK, saying, {}, True, other))

    def test_no_papers(self):
        saying = ("and", EVEN, ("some", "x", ("or", ODD, ODD)))
        paper = ("both", (), ("take", 1, ("one", 0, ())))
        self.shown(saying, ZERO, True, paper)
        table = table_of(BOOK)
        for other in changed_papers(paper):
            right = is_paper(BOOK, table, saying, {"x": 0}, True, other)
            if right:
                judge_paper(BOOK, saying, ZERO, True, other)
            else:
                self.refused(saying, ZERO, True, other)

    def test_nested_deep(self):
        deep = ()
        for _ in range(199):
            deep = ("one", 0, deep)
        for saying in [EVEN, ("or", EVEN, EVEN), ("some", "x", EVEN), EITHER, ("and", EVEN, EVEN)]:
            self.refused(saying, ZERO, True, deep)
        for word in ["both", "each", "take"]:
            deep = ()
            for _ in range(199):
                deep = (word, deep)
            for saying in [EVEN, ("or", EVEN, EVEN), ("some", "x", EVEN), EITHER, ("and", EVEN, EVEN)]:
                self.refused(saying, ZERO, True, deep)

    def test_chance(self):
        chooser = random.Random(47)
        tried = 0
        changed = 0
        while tried < 250:
            book = chance.some_book(chooser)
            try:
                table = table_of(book)
            except TooLarge:
                continue
            if len(table[0]) > 6:
                continue
            saying = chance.some_saying(chooser, book, ["x", "y"], 9, 3)
            rows = {name: chooser.randrange(len(table[0])) for name in free_names(saying)}
            filling = {name: table[2][row] for name, row in rows.items()}
            yes = told.holds_told(book, table, saying, rows)
            paper = least_paper(book, table, saying, rows, yes)
            if size_of_paper(paper) > 400:
                continue
            self.assertEqual(paper_of(book, saying, filling), (yes, paper))
            self.assertIsNone(least_paper(book, table, saying, rows, not yes))
            self.assertIsNone(judge_paper(book, saying, filling, yes, paper))
            self.refused(saying, filling, not yes, paper, book)
            others = list(changed_papers(paper))
            for other in chooser.sample(others, min(8, len(others))):
                if is_paper(book, table, saying, rows, yes, other):
                    changed += 1
                    self.assertIsNone(judge_paper(book, saying, filling, yes, other))
                else:
                    self.refused(saying, filling, yes, other, book)
            tried += 1
        self.assertGreater(changed, 5)


def wide(others):
    """A saying about 24 rows that has a paper of 2983 tuples, and one tuple more for each of the others."""
    leaf = ("at", "pa", ("z",))
    yes = ("not", leaf)
    saying = ("all", "x", ("all", "y", ("and", yes, yes)))
    for _ in range(2):
        saying = ("and", saying, ("all", "x", ("all", "y", yes)))
    saying = ("and", saying, ("all", "x", yes))
    for _ in range(others):
        saying = ("or", saying, leaf)
    return saying


class SizeTest(unittest.TestCase):
    def test_bound(self):
        self.assertEqual(MAX_PAPER, 3000)
        for others in [0, 16, 17, 18]:
            saying = wide(others)
            self.assertIsNone(check_saying(ROWS24, saying))
            table = table_of(ROWS24)
            paper = least_paper(ROWS24, table, saying, {}, True)
            self.assertEqual(size_of_paper(paper), 2983 + others)
            self.assertIsNone(judge_paper(ROWS24, saying, {}, True, paper))
            if others <= 17:
                self.assertEqual(paper_of(ROWS24, saying, {}), (True, paper))
            else:
                with self.assertRaises(TooLarge):
                    paper_of(ROWS24, saying, {})
            self.assertEqual(paper_of(ROWS24, ("some", "v", ("at", "pa", ("z",))), {})[0], False)

    def test_any_size_is_judged(self):
        yes = ("not", ("at", "pa", ("z",)))
        saying = ("all", "x", ("all", "y", ("some", "v", ("all", "u", ("or", yes, yes)))))
        column = ("each",) + (("one", 1, ()),) * 24
        paper = ("each",) + (("each",) + (("take", 23, column),) * 24,) * 24
        start = time.perf_counter()
        self.assertIsNone(judge_paper(ROWS24, saying, {}, True, paper))
        with self.assertRaises(TooLarge):
            paper_of(ROWS24, saying, {})
        worse = (*paper[:-1], (*paper[-1][:-1], ("take", 23, (*column[:-1], ("one", 2, ())))))
        with self.assertRaises(BadPaper):
            judge_paper(ROWS24, saying, {}, True, worse)
        self.assertLess(time.perf_counter() - start, 10)


class ErrorTest(unittest.TestCase):
    def test_order(self):
        leaf = ("at", "pa", "x")
        with self.assertRaises(Missing):
            paper_of(BOOK, EVEN, {})
        with self.assertRaises(Missing):
            paper_of(BOOK, ("and", EVEN, ("at", "odd", "y")), ZERO)
        with self.assertRaises(Missing):
            paper_of(BEYOND, leaf, {})
        with self.assertRaises(TooLarge):
            paper_of(BEYOND, leaf, ZERO)
        with self.assertRaises(Missing):
            judge_paper(BOOK, EVEN, {"y": ("z",)}, True, ())
        with self.assertRaises(Missing):
            judge_paper(BOOK, EVEN, {}, True, ("one", 0, ()))
        with self.assertRaises(Missing):
            judge_paper(BEYOND, leaf, {}, True, ())
        with self.assertRaises(TooLarge):
            judge_paper(BEYOND, leaf, ZERO, True, ("one", 0, ()))

    def test_asked_again(self):
        filling = dict(ZERO)
        paper_of(BOOK, EVEN, filling)
        self.assertEqual(filling, ZERO)
        first = paper_of(BOOK, EITHER, {})
        paper_of(ROWS24, ("at", "pa", "x"), ZERO)
        self.assertEqual(paper_of(BOOK, EITHER, {}), first)


class TimeTest(unittest.TestCase):
    def test_largest(self):
        book = read_book(examples.LARGE_ASIDE)
        terms = [("pair", ("node", "x", "y"), "u"), ("node", "v", ("pair", "u", "y")), ("pair", "x", ("node", "v", "u"))]
        leaves = [("at", mark, term) for mark, _ in book[1] for term in terms]
        inner = leaves[0]
        for number in range(26):
            inner = (["and", "or"][number % 2], inner, leaves[number % len(leaves)])
        start = time.perf_counter()
        for kinds in [("all", "some", "all", "some"), ("some", "all", "some", "some"), ("some",) * 4, ("all",) * 4]:
            saying = inner
            for kind, name in zip(kinds, "vuyx"):
                saying = (kind, name, saying)
            self.assertIsNone(check_saying(book, saying))
            whether = holds(book, saying, {})
            try:
                yes, paper = paper_of(book, saying, {})
                self.assertIs(yes, whether)
                self.assertIsNone(judge_paper(book, saying, {}, yes, paper))
            except TooLarge:
                pass
        self.assertLess(time.perf_counter() - start, 30)


if __name__ == "__main__":
    unittest.main()
