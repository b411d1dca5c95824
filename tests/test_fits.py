import itertools
import random
import time
import unittest

import chance
import examples
import told
import turns
from test_stands import counter_of, ladder_reader, same
from test_turners import ALL, DOUBLER, INS, MIXED, OUTS, Z, row_of_signs
from pergola.bookreader import read_book
from pergola.errors import BadPaper, Missing, NotAllowed, TooLarge
from pergola.fits import MAX_TRIPLES, fit, judge_fit, least_into
from pergola.order import trees_of
from pergola.stands import stands_of
from pergola.table import has, table_of
from pergola.terms import is_tree, size_of
from pergola.turners import look_of, size_turned, turned

FIRST = read_book("sign z 0\nsign s 1\nmark any 0\nany(x)\n")
SECOND = read_book("sign z 0\nsign pair 2\nmark even 0\neven(z)\neven(pair(x, y)) if even(x), even(y)\n")
ROWS25 = read_book(examples.ROWS25)
PARITY = "sign z 0\nsign s 1\nmark even 0\nmark odd 0\neven(z)\nodd(s(x)) if even(x)\neven(s(x)) if odd(x)\n"
LADDER400 = [1, 2, 5, 11, 23, 24, 49, 99, 199, 399, 400]
LADDER401 = [1, 2, 5, 11, 23, 24, 49, 99, 199, 200, 401]
LADDER_SIGNS = (("z", 0), ("s", 1), ("pair", 2))


def any_book(signs):
    return (signs, (("any", 0),), (("any", "x", ()),))


def circle_book(many):
    """A book whose rows count signs up to a number, over and over."""
    marks = [f"m{letter}" for letter in "abcdef"[:many]]
    lines = ["sign z 0", "sign s 1"] + [f"mark {mark} 0" for mark in marks] + [f"{marks[0]}(z)"]
    lines += [f"{marks[(at + 1) % many]}(s(x)) if {mark}(x)" for at, mark in enumerate(marks)]
    return read_book("".join(f"{line}\n" for line in lines))


def ladder_turner(sizes, last, others):
    """A turner with one side for the last tree of a ladder, and one for each other tree, by its arity."""
    reader = ladder_reader(sizes)
    many = len(reader[0])
    single = [others[1]] * many
    double = [[others[2]] * many for _ in range(many)]
    if sizes[-1] == sizes[-2] + 1:
        single[len(sizes) - 2] = last
    else:
        double[len(sizes) - 2][len(sizes) - 2] = last
    return (LADDER_SIGNS, LADDER_SIGNS, reader, ((others[0], tuple(single), tuple(tuple(row) for row in double)),))


class FitTest(unittest.TestCase):
    def refused(self, error, *arguments):
        with self.assertRaises(error):
            fit(*arguments)
        if error is not TooLarge:
            with self.assertRaises(error):
                judge_fit(*arguments, ())

    def test_examples(self):
        self.assertEqual(MAX_TRIPLES, 120)
        self.assertEqual(fit(DOUBLER, FIRST, "any", SECOND, "even"), ("fits", ((0, 0, (0,)),)))

    def test_small_trees_that_fail(self):
        parity = read_book(PARITY)
        self.assertEqual(fit(same(INS), FIRST, "any", parity, "even"), ("fails", ("s", Z)))
        self.assertEqual(fit(same(INS), FIRST, "any", parity, "odd"), ("fails", Z))
        self.assertEqual(fit(same(INS), parity, "odd", parity, "even"), ("fails", ("s", Z)))
        self.assertEqual(fit(same(INS), parity, "odd", parity, "odd"), ("fits", ((0, 0, (0,)), (1, 0, (1,)))))

    def test_trees_that_are_not_turned(self):
        parity = read_book(PARITY)
        stop = (INS, INS, same(INS, 5)[2], ((Z, (("s", (0, 0)),) * 3 + ((),) + (("s", (0, 0)),)),))
        self.assertEqual(fit(stop, FIRST, "any", FIRST, "any"), ("fails", row_of_signs(4)))
        self.assertEqual(fit(stop, parity, "odd", FIRST, "any"), ("fails", row_of_signs(5)))
        none = (INS, INS, same(INS)[2], (((), (Z,)),))
        # Trees that are not turned do not fail if they lack the first mark.
        lone = read_book("sign z 0\nsign s 1\nmark no 0\nmark low 0\nlow(z)\n")
        self.assertEqual(fit(none, lone, "no", FIRST, "any"), ("fits", ((0, 0, (-1,)), (1, 0, (0,)))))
        self.assertEqual(fit(none, lone, "low", FIRST, "any"), ("fails", Z))

    def test_great_trees_that_fail(self):
        every = any_book(LADDER_SIGNS)
        whole = (Z, ("s", (0, 0)), ("pair", (0, 0), (0, 1)))
        for sizes in [LADDER400, LADDER401]:
            turner = ladder_turner(sizes, (), whole)
            if sizes[-1] == 400:
                word, tree = fit(turner, every, "any", every, "any")
                self.assertEqual((word, size_of(tree)), ("fails", 400))
                self.assertTrue(is_tree(LADDER_SIGNS, tree))
                self.assertEqual(size_turned(turner, tree), 0)
            else:
                self.refused(TooLarge, turner, every, "any", every, "any")

    def test_errors_in_order(self):
        turned_signs = (FIRST[0][::-1], *FIRST[1:])
        great = (INS, ROWS25[0], same(INS)[2], ((Z, (Z,)),))
        back = (ROWS25[0], INS, (((),), (0, (0,), (0,), (0,))), ((Z, (Z,), (Z,), (Z,)),))
        long = read_book(examples.SIZE401)
        for first, second in [(turned_signs, SECOND), (FIRST, (SECOND[0][::-1], *SECOND[1:])), (SECOND, SECOND), (ROWS25, SECOND), (FIRST, ROWS25)]:
            self.refused(NotAllowed, DOUBLER, first, "any", second, "even")
            self.refused(NotAllowed, DOUBLER, first, "no", second, "no")
        self.refused(Missing, DOUBLER, FIRST, "no", SECOND, "even")
        self.refused(Missing, DOUBLER, FIRST, "any", SECOND, "any")
        self.refused(Missing, DOUBLER, FIRST, "z", SECOND, "")
        self.refused(Missing, great, FIRST, "any", ROWS25, "no")
        self.refused(Missing, great, FIRST, "no", ROWS25, "pa")
        self.refused(Missing, back, ROWS25, "no", FIRST, "any")
        self.refused(Missing, back, ROWS25, "pa", FIRST, "no")
        for arguments in [(great, FIRST, "any", ROWS25, "pa"), (back, ROWS25, "pa", FIRST, "any")]:
            self.refused(TooLarge, *arguments)
            with self.assertRaises(TooLarge):
                judge_fit(*arguments, ())
        loop = (long[0], long[0], (((),), (0, (0,), ((0,),))), ((Z, (("s", (0, 0)),), ((Z,),)),))
        with self.assertRaises(TooLarge):
            judge_fit(loop, long, "ma", long, "ma", ())

    def test_120_and_121_triples(self):
        """Five rows and 24 looks make 120 triples; a row for the sign alone makes one more."""
        five = circle_book(5)
        low = read_book("sign z 0\nsign s 1\nmark low 0\nmark any 0\nlow(z)\nany(x)\n")
        turner = same(INS, 24)
        word, paper = fit(turner, five, "ma", FIRST, "any")
        self.assertEqual((word, len(paper)), ("fits", 120))
        self.assertIsNone(judge_fit(turner, five, "ma", FIRST, "any", paper))
        # A tree fails, but all triples are met first.
        self.assertEqual(fit(turner, five, "mb", circle_book(5), "ma"), ("fails", ("s", Z)))
        self.refused(TooLarge, turner, five, "ma", low, "any")
        self.refused(TooLarge, turner, five, "mb", low, "low")
        # The judge has no bound.
        more = tuple((number % 5, number % 24, (0,)) for number in range(120))
        self.assertIsNone(judge_fit(turner, five, "ma", FIRST, "any", tuple(sorted(more))))
        both = tuple(sorted((number % 5, number % 24, (low_row,)) for number in range(120) for low_row in (0, 1)))
        self.assertIsNone(judge_fit(turner, five, "ma", low, "any", both))

    def test_chance(self):
        """No tree fails exactly if the paper says so, the tree is the first one that fails, and judges agree."""
        chooser = random.Random(98)
        seen = {"fits": 0, "fails": 0}
        while min(seen.values()) < 60:
            first, second = chance.some_book(chooser, 2, 6), chance.some_book(chooser, 2, 6)
            turner = turns.some_turner(chooser, first[0], second[0], chooser.randint(1, 2), chooser.randint(1, 2), 3, 0.05)
            mark, other = first[1][0][0], second[1][0][0]
            try:
                word, thing = fit(turner, first, mark, second, other)
            except TooLarge:
                continue
            seen[word] += 1
            failing = None
            for size in range(1, 6):
                for tree in trees_of(first[0], size)[:40]:
                    if failing is None and has(first, mark, tree):
                        became = turned(turner, tree)
                        failing = tree if became is None or not has(second, other, became) else None
            if word == "fits":
                self.assertIsNone(failing)
                self.assertEqual(thing, self.triples_told(turner, first, second))
                self.assertIsNone(judge_fit(turner, first, mark, second, other, thing))
            else:
                self.assertTrue(has(first, mark, thing))
                became = turned(turner, thing)
                self.assertTrue(became is None or not has(second, other, became))
                self.assertTrue(failing in (None, thing) or size_of(thing) == 5)
                if size_of(thing) > 5:
                    self.assertIsNone(failing)

    def triples_told(self, turner, first, second):
        signs, _, _ = first
        row_moves, moves = table_of(first)[1], table_of(second)[1]

        def follow(sign, triples):
            row = told.moved(row_moves[turns.place(signs, sign)], [row for row, _, _ in triples])
            return (row, *turns.stand_after(turner, moves, sign, [triple[1:] for triple in triples]))

        return tuple(sorted(turns.closure([], signs, follow)))

    def test_greatest(self):
        """Three signs of the arity 2, eight states, sides of 24 signs, and very many triples."""
        chooser = random.Random(99)
        signs = (("z", 0), ("pair", 2), ("node", 2), ("join", 2))
        first = (signs, (("ma", 0), ("mb", 0)), (("ma", ("pair", "x", "y"), ()), ("mb", ("node", "x", "y"), ())))
        start = time.perf_counter()
        met = []
        for looks in [1, 2, 3]:
            turner = turns.some_turner(chooser, signs, signs, looks, 8, 24, 0)
            for second in [any_book(signs), first]:
                try:
                    met.append(fit(turner, first, "ma", second, second[1][0][0])[0])
                except TooLarge:
                    met.append("large")
        self.assertLess(time.perf_counter() - start, 10)
        self.assertTrue(set(met) & {"fits", "fails"})

    def test_nothing_is_changed(self):
        before = repr((DOUBLER, FIRST, SECOND))
        for _ in range(2):
            self.assertEqual(fit(DOUBLER, FIRST, "any", SECOND, "even"), ("fits", ((0, 0, (0,)),)))
            fit(same(INS), FIRST, "any", read_book(PARITY), "even")
        self.assertEqual(repr((DOUBLER, FIRST, SECOND)), before)


class JudgeTest(unittest.TestCase):
    BOOK = read_book(PARITY)
    PAPER = ((0, 0, (0,)), (1, 0, (1,)))

    def judged(self, paper, mark="odd", other="odd"):
        return judge_fit(same(INS), self.BOOK, mark, self.BOOK, other, paper)

    def bad(self, paper, mark="odd", other="odd"):
        with self.assertRaises(BadPaper):
            self.judged(paper, mark, other)

    def test_right(self):
        self.assertIsNone(judge_fit(DOUBLER, FIRST, "any", SECOND, "even", ((0, 0, (0,)),)))
        self.assertIsNone(self.judged(self.PAPER))
        self.assertIsNone(self.judged(self.PAPER, "even", "even"))

    def test_more_triples(self):
        """They need not be those of trees, but what follows from them must be there, and none of them may fail."""
        self.bad((*self.PAPER[:1], (0, 0, (1,)), *self.PAPER[1:]))
        self.bad(((0, 0, (0,)), (0, 0, (1,)), (1, 0, (0,)), (1, 0, (1,))))
        lone = read_book("sign z 0\nsign s 1\nmark no 0\n")
        self.assertIsNone(judge_fit(same(INS), lone, "no", self.BOOK, "odd", ((0, 0, (0,)), (0, 0, (1,)))))
        self.assertIsNone(judge_fit(same(INS), lone, "no", self.BOOK, "odd", ((0, 0, (-1,)), (0, 0, (0,)), (0, 0, (1,)))))
        with self.assertRaises(BadPaper):
            judge_fit(same(INS), lone, "no", self.BOOK, "odd", ((0, 0, (-1,)), (0, 0, (1,))))

    def test_left_out_twice_in_another_order(self):
        self.bad(())
        self.bad(self.PAPER[:1])
        self.bad(self.PAPER[1:])
        self.bad(self.PAPER[::-1])
        self.bad((*self.PAPER, self.PAPER[1]))
        self.bad((self.PAPER[0], *self.PAPER))

    def test_out_of_range(self):
        for triple in [(2, 0, (1,)), (1, 1, (1,)), (1, 0, (2,)), (1, 0, (1, 1)), (1, 0, ()), (9, 9, (9,))]:
            self.bad((self.PAPER[0], triple))
            self.bad((*self.PAPER, triple))
        for triple in [(-1, 0, (0,)), (0, -1, (0,)), (0, 0, (-2,)), (0, 0, ())]:
            self.bad((triple, *self.PAPER))
            self.bad((triple, self.PAPER[1]))

    def test_a_triple_fails(self):
        self.bad(self.PAPER, "odd", "even")
        self.bad(self.PAPER, "even", "odd")
        none = (INS, INS, same(INS)[2], ((Z, ((),)),))
        with self.assertRaises(BadPaper):
            judge_fit(none, FIRST, "any", FIRST, "any", ((0, 0, (-1,)), (0, 0, (0,))))

    def test_each_triple_is_needed(self):
        chooser = random.Random(100)
        tried = 0
        while tried < 25:
            first, second = chance.some_book(chooser, 2, 6), chance.some_book(chooser, 2, 6)
            turner = turns.some_turner(chooser, first[0], second[0], 2, 2, 3, 0.05)
            mark, other = first[1][0][0], second[1][0][0]
            try:
                word, paper = fit(turner, first, mark, second, other)
            except TooLarge:
                continue
            if word == "fits":
                tried += 1
                for at in range(len(paper)):
                    with self.assertRaises(BadPaper):
                        judge_fit(turner, first, mark, second, other, (*paper[:at], *paper[at + 1:]))

    def test_all_small_papers(self):
        """A paper is right exactly if it has what follows, and no triple of it fails."""
        turner = (INS, INS, same(INS, 2)[2], ((Z, (("s", (0, 0)), ("s", (0, 0)))),))
        every = [(row, look, (state,)) for row in range(2) for look in range(2) for state in range(-1, 2)]
        rows, moves, _ = table_of(self.BOOK)
        right = []
        for many in range(len(every) + 1):
            for paper in itertools.combinations(every, many):
                ends = {(0, 0, (0,))}
                for row, look, state in paper:
                    ends.add((moves[1][row], 1 - look, turns.stand_after(turner, moves, "s", [(look, state)])[1]))
                fails = any("odd" in rows[row] and (state[0] < 0 or "odd" not in rows[state[0]]) for row, _, state in paper)
                if ends <= set(paper) and not fails:
                    right.append(paper)
                    self.assertIsNone(judge_fit(turner, self.BOOK, "odd", self.BOOK, "odd", paper))
                else:
                    with self.assertRaises(BadPaper):
                        judge_fit(turner, self.BOOK, "odd", self.BOOK, "odd", paper)
        self.assertEqual(right[0], ((0, 0, (0,)), (1, 1, (1,))))
        self.assertEqual(len(right), 2)


class IntoTest(unittest.TestCase):
    def test_examples(self):
        self.assertEqual(least_into(DOUBLER, ("pair", Z, Z)), ("s", Z))
        self.assertIsNone(least_into(DOUBLER, ("pair", Z, ("pair", Z, Z))))

    def test_subtrees(self):
        for many in [0, 1, 20, 22]:
            self.assertEqual(least_into(same(INS), row_of_signs(many)), row_of_signs(many))
        for many in [23, 24, 99]:
            with self.assertRaises(TooLarge):
                least_into(same(INS), row_of_signs(many))
        tree = Z
        for _ in range(12):
            tree = ("pair", tree, tree) if size_of(tree) < 100 else tree
        self.assertIsNone(least_into((INS, OUTS, same(INS)[2], ((Z, (Z,)),)), tree))
        whole = (OUTS, OUTS, (((),), (0, ((0,),))), ((Z, ((("pair", (0, 1), (0, 0)),),)),))
        self.assertEqual(least_into(whole, ("pair", Z, ("pair", Z, Z))), ("pair", ("pair", Z, Z), Z))

    def test_too_many_stands(self):
        self.assertEqual(least_into(same(INS, 2), row_of_signs(9)), row_of_signs(9))
        for looks, many in [(2, 22), (3, 22), (24, 1)]:
            with self.assertRaises(TooLarge):
                least_into(same(INS, looks), row_of_signs(many))
            # Also if nothing is turned into the tree.
        entries = (row_of_signs(4), (("s", (0, 0)),) * 24), (Z, (("s", (1, 0)),) * 24)
        with self.assertRaises(TooLarge):
            least_into((INS, INS, same(INS, 24)[2], entries), row_of_signs(3))
        entries = (row_of_signs(4), (("s", (0, 0)),)), (Z, (("s", (1, 0)),))
        self.assertIsNone(least_into((INS, INS, same(INS)[2], entries), row_of_signs(3)))

    def test_sizes_400_and_401(self):
        for sizes in [LADDER400, LADDER401]:
            turner = ladder_turner(sizes, Z, ((), (), ()))
            if sizes[-1] == 400:
                found = least_into(turner, Z)
                self.assertEqual(size_of(found), 400)
                self.assertEqual(turned(turner, found), Z)
            else:
                with self.assertRaises(TooLarge):
                    least_into(turner, Z)
            self.assertIsNone(least_into(turner, ("s", Z)))

    def test_chance(self):
        chooser = random.Random(101)
        seen = {True: 0, False: 0}
        while min(seen.values()) < 60:
            ins, outs = chooser.choice(turns.SHAPES), chooser.choice(turns.SHAPES)
            turner = turns.some_turner(chooser, ins, outs, chooser.randint(1, 2), chooser.randint(1, 2), 3, 0.1)
            goal = chooser.choice([tree for size in range(1, 5) for tree in trees_of(outs, size)[:10]])
            try:
                found = least_into(turner, goal)
            except TooLarge:
                continue
            small = [tree for size in range(1, 6) for tree in trees_of(ins, size)[:40]]
            first = next((tree for tree in small if turns.turned_told(turner, 0, tree) == goal), None)
            seen[found is None] += 1
            if first is not None:
                self.assertTrue(found == first or size_of(found) == 5 == size_of(first))
            if found is not None:
                self.assertEqual(turned(turner, found), goal)
                self.assertTrue(first is not None or size_of(found) >= 5)

    def test_ordinary_time(self):
        start = time.perf_counter()
        for _ in range(50):
            least_into(MIXED, ("pair", Z, ("s", Z)))
            fit(MIXED, any_book(ALL), "any", any_book(ALL), "any")
            stands_of(MIXED, look_of(any_book(ALL)))
        self.assertLess(time.perf_counter() - start, 2)


if __name__ == "__main__":
    unittest.main()
