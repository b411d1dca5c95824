import copy
import random
import time
import unittest

import chance
import examples
import told
from pergola.bookreader import read_book
from pergola.errors import Missing, NotAllowed, TooLarge
from pergola.plays import Play, least_filling, parting, turned
from pergola.sayings import check_saying, free_names, holds
from pergola.table import row_of, table_of
from pergola.terms import size_of
from test_sayings import BEYOND, BOOK, EITHER, ONE, PAIRS, UNLIKE, Z, chain, nest, nots, row_of_ands

EVEN, ODD = ("at", "even", "x"), ("at", "odd", "x")


def nodes_of(saying):
    if saying[0] == "at":
        return 1
    return 1 + sum(nodes_of(part) for part in saying[1:] if isinstance(part, tuple))


class TurnedTest(unittest.TestCase):
    def test_example(self):
        saying = ("not", ("all", "x", ("and", EVEN, ("not", ODD))))
        self.assertEqual(turned(saying), ("some", "x", ("or", ("not", EVEN), ODD)))

    def test_each_rule(self):
        for saying, form in [
            (EVEN, EVEN),
            (("not", EVEN), ("not", EVEN)),
            (("not", ("not", EVEN)), EVEN),
            (("not", ("not", ("not", EVEN))), ("not", EVEN)),
            (("not", ("and", EVEN, ODD)), ("or", ("not", EVEN), ("not", ODD))),
            (("not", ("or", EVEN, ODD)), ("and", ("not", EVEN), ("not", ODD))),
            (("not", ("all", "y", EVEN)), ("some", "y", ("not", EVEN))),
            (("not", ("some", "y", EVEN)), ("all", "y", ("not", EVEN))),
            (("and", EVEN, ODD), ("and", EVEN, ODD)),
            (("or", EVEN, ("not", ODD)), ("or", EVEN, ("not", ODD))),
            (("all", "x", ("not", ("not", EVEN))), ("all", "x", EVEN)),
            (("some", "x", ("not", ("or", EVEN, ("not", ODD)))), ("some", "x", ("and", ("not", EVEN), ODD))),
        ]:
            self.assertEqual(turned(saying), form)

    def test_by_chance(self):
        chooser = random.Random(15)
        for _ in range(300):
            book = chance.some_book(chooser)
            table = table_of(book)
            saying = chance.some_saying(chooser, book, ["x"], chooser.randint(1, 14), 2)
            form = turned(saying)
            self.assertEqual(form, told.turned_told(saying))
            self.assertIsNone(check_saying(book, form))
            if len(table[0]) < 5:
                self.assertEqual(told.rows_told(book, table, form, ["x"]), told.rows_told(book, table, saying, ["x"]))

    def test_how_many_nodes(self):
        self.assertEqual(turned(nots(58, EVEN)), EVEN)
        self.assertEqual(turned(nots(59, EVEN)), ("not", EVEN))
        # "not" around so many leaves becomes 3 * leaves - 1 nodes.
        for leaves in [19, 20]:
            form = turned(("not", row_of_ands(leaves)))
            self.assertEqual(nodes_of(form), 3 * leaves - 1)
        self.assertEqual(nodes_of(turned(("all", "x", ("not", row_of_ands(20))))), 60)
        for saying in [
            ("all", "x", ("all", "x", ("not", row_of_ands(20)))),
            ("not", ("all", "x", ("some", "y", row_of_ands(20)))),
            ("not", row_of_ands(21)),
            ("not", row_of_ands(30)),
        ]:
            self.assertGreater(nodes_of(told.turned_told(saying)), 60)
            with self.assertRaises(TooLarge):
                turned(saying)
        self.assertEqual(nodes_of(told.turned_told(("all", "x", ("all", "x", ("not", row_of_ands(20)))))), 61)
        self.assertEqual(nodes_of(turned(("not", ("not", row_of_ands(29))))), 57)


class LeastFillingTest(unittest.TestCase):
    def test_example(self):
        saying = ("and", ODD, ("at", "odd", ("s", "y")))
        self.assertEqual(least_filling(BOOK, saying, ["x", "y"]), [ONE, Z])

    def test_names(self):
        saying = ("and", ODD, ("at", "odd", ("s", "y")))
        self.assertEqual(least_filling(BOOK, saying, ["y", "x"]), [Z, ONE])
        self.assertEqual(least_filling(BOOK, saying, ["v", "x", "y"]), [Z, ONE, Z])
        self.assertEqual(least_filling(BOOK, ODD, ["x"]), [ONE])
        self.assertEqual(least_filling(BOOK, EITHER, []), [])
        self.assertIsNone(least_filling(BOOK, ("not", EITHER), []))
        self.assertIsNone(least_filling(BOOK, ("and", EVEN, ODD), ["x"]))
        self.assertIsNone(least_filling(BOOK, ("and", EVEN, ODD), ["y", "x"]))

    def test_first_name_decides(self):
        unlike = ("or", ("and", EVEN, ("at", "odd", "y")), ("and", ODD, ("at", "even", "y")))
        self.assertEqual(least_filling(BOOK, unlike, ["x", "y"]), [Z, ONE])
        self.assertEqual(least_filling(BOOK, unlike, ["y", "x"]), [Z, ONE])

    def test_by_chance(self):
        chooser = random.Random(16)
        found = []
        for _ in range(300):
            book = chance.some_book(chooser)
            table = table_of(book)
            names = ["x", "y", "u"][: chooser.randint(0, 3)]
            saying = chance.some_saying(chooser, book, names, chooser.randint(1, 10), 4 - len(names))
            if len(table[0]) < 5 and set(free_names(saying)) <= set(names):
                rows = told.rows_told(book, table, saying, names)
                first = [table[2][row] for row in rows[0]] if rows else None
                self.assertEqual(least_filling(book, saying, names), first)
                found.append(first)
        self.assertTrue(10 < found.count(None) < len(found) - 10)

    def test_errors(self):
        for error, book, saying, names in [
            (NotAllowed, BOOK, ODD, ["z"]),
            (NotAllowed, BOOK, ODD, ["y", "y"]),
            (NotAllowed, BOOK, nest("ab", ODD), ["x", "y", "v"]),
            (Missing, BOOK, ODD, ["y"]),
            (NotAllowed, BEYOND, ("at", "pa", "x"), ["not"]),
            (Missing, BEYOND, ("at", "pa", "x"), []),
            (TooLarge, BEYOND, ("at", "pa", "x"), ["x"]),
        ]:
            with self.assertRaises(error):
                least_filling(book, saying, names)


class PartingTest(unittest.TestCase):
    def test_names(self):
        self.assertEqual(parting(BOOK, EVEN, ODD, ["x"]), [Z])
        self.assertEqual(parting(BOOK, EVEN, ("at", "odd", ("s", "x")), ["x"]), None)
        self.assertEqual(parting(BOOK, EVEN, EITHER, ["x"]), [ONE])
        self.assertEqual(parting(BOOK, EITHER, EVEN, ["x"]), [ONE])
        self.assertEqual(parting(BOOK, EVEN, ("at", "even", "y"), ["x", "y"]), [Z, ONE])
        self.assertEqual(parting(BOOK, EVEN, ("at", "even", "y"), ["v", "y", "x"]), [Z, Z, ONE])
        self.assertIsNone(parting(BOOK, EVEN, EVEN, ["y", "x"]))

    def test_no_names(self):
        self.assertEqual(parting(BOOK, EITHER, ("not", EITHER), []), [])
        self.assertIsNone(parting(BOOK, EITHER, ("not", ("not", EITHER)), []))

    def test_by_chance(self):
        chooser = random.Random(17)
        for _ in range(300):
            book = chance.some_book(chooser)
            table = table_of(book)
            names = ["x", "y", "u"][: chooser.randint(0, 2)]
            pair = [chance.some_saying(chooser, book, names, 8, 2) for _ in range(2)]
            if len(table[0]) < 5 and all(set(free_names(saying)) <= set(names) for saying in pair):
                one, other = [told.rows_told(book, table, saying, names) for saying in pair]
                apart = sorted(set(one) ^ set(other))
                first = [table[2][row] for row in apart[0]] if apart else None
                self.assertEqual(parting(book, *pair, names), first)

    def test_errors(self):
        deep = nest("abc", EVEN)
        other = ("at", "odd", "y")
        for error, book, first, second, names in [
            (NotAllowed, BOOK, EVEN, ODD, ["z"]),
            (NotAllowed, BOOK, EVEN, ODD, ["x", "x"]),
            (NotAllowed, BOOK, EVEN, deep, ["x", "y"]),
            (NotAllowed, BOOK, deep, EVEN, ["x", "y"]),
            (Missing, BOOK, EVEN, other, ["x"]),
            (Missing, BOOK, other, EVEN, ["x"]),
            (NotAllowed, BOOK, other, deep, ["x", "v"]),
            (NotAllowed, BOOK, deep, other, ["x", "v"]),
            (NotAllowed, BEYOND, ("at", "pa", "x"), nest("abcd", ("at", "pa", "x")), ["x"]),
            (Missing, BEYOND, ("at", "pa", "x"), ("at", "pa", "y"), ["x"]),
            (TooLarge, BEYOND, ("at", "pa", "x"), ("at", "pa", "x"), ["x"]),
        ]:
            with self.assertRaises(error):
                parting(book, first, second, names)


class PlayTest(unittest.TestCase):
    def refuses(self, play, *choices):
        """Choices that are not allowed change nothing."""
        for choice in choices:
            before = (play.saying(), play.filling(), play.side(), play.turn(), play.choices(), play.winner(), play.advice())
            with self.assertRaises(NotAllowed):
                play.choose(choice)
            after = (play.saying(), play.filling(), play.side(), play.turn(), play.choices(), play.winner(), play.advice())
            self.assertEqual(after, before)

    def test_example(self):
        play = Play(BOOK, ("all", "x", ("some", "y", ("at", "odd", ("s", "y")))), {})
        self.assertEqual((play.turn(), play.winner(), play.advice()), (1, 0, None))
        play.choose(ONE)
        self.assertEqual((play.turn(), play.advice(), play.filling()), (0, Z, {}))

    def test_from_the_beginning_to_the_end(self):
        second = ("or", ODD, ("some", "y", ("and", ("at", "even", "y"), ("not", EVEN))))
        saying = ("not", ("all", "x", ("not", second)))
        play = Play(BOOK, saying, {"w": Z})
        self.assertEqual((play.saying(), play.side(), play.turn()), (("all", "x", ("not", second)), 1, 0))
        self.assertEqual((play.winner(), play.advice(), play.filling(), play.choices()), (0, ONE, {}, []))
        play.choose(ONE)
        self.assertEqual((play.saying(), play.side(), play.turn(), play.filling()), (second, 0, 0, {"x": ONE}))
        self.assertEqual((play.winner(), play.advice()), (0, 0))
        play.choose(1)
        self.assertEqual((play.saying(), play.side(), play.turn()), (second[2], 0, 0))
        self.assertEqual((play.winner(), play.advice()), (0, Z))
        play.choose(("s", ONE))
        self.assertEqual((play.turn(), play.side(), play.filling()), (1, 0, {"y": ("s", ONE), "x": ONE}))
        self.assertEqual((play.winner(), play.advice()), (0, None))
        play.choose(1)
        self.assertEqual((play.saying(), play.side(), play.turn()), (EVEN, 1, -1))
        self.assertEqual((play.winner(), play.advice(), play.filling()), (0, None, {"x": ONE}))
        self.assertEqual(play.choices(), [ONE, 1, ("s", ONE), 1])
        self.refuses(play, 0, 1, Z, "x", -1)

    def test_who_has_to_choose(self):
        for saying, turn, side in [
            (("and", EVEN, ODD), 1, 0),
            (("or", EVEN, ODD), 0, 0),
            (("all", "y", EVEN), 1, 0),
            (("some", "y", EVEN), 0, 0),
            (EVEN, -1, 0),
        ]:
            for many in range(4):
                play = Play(BOOK, nots(many, saying), {"x": Z})
                other = many % 2
                self.assertEqual(play.side(), side ^ other)
                self.assertEqual(play.turn(), -1 if turn < 0 else turn ^ other)
                self.assertEqual(play.saying(), saying)

    def test_advice(self):
        for saying, turn, winner, advice in [
            (("and", EVEN, ODD), 1, 1, 1),
            (("and", ODD, EVEN), 1, 1, 0),
            (("and", ODD, ODD), 1, 1, 0),
            (("and", EVEN, EVEN), 1, 0, None),
            (("or", EVEN, ODD), 0, 0, 0),
            (("or", ODD, EVEN), 0, 0, 1),
            (("or", EVEN, EVEN), 0, 0, 0),
            (("or", ODD, ODD), 0, 1, None),
            (("all", "x", ODD), 1, 1, Z),
            (("all", "x", EVEN), 1, 1, ONE),
            (("all", "y", EVEN), 1, 0, None),
            (("some", "x", ODD), 0, 0, ONE),
            (("some", "y", EVEN), 0, 0, Z),
            (("some", "y", ODD), 0, 1, None),
            (EVEN, -1, 0, None),
            (ODD, -1, 1, None),
        ]:
            for many in range(3):
                play = Play(BOOK, nots(many, saying), {"x": Z})
                other = many % 2
                self.assertEqual(play.advice(), advice, saying)
                self.assertEqual(play.winner(), winner ^ other)
                self.assertEqual(play.turn(), -1 if turn < 0 else turn ^ other)
                if many == 0:
                    self.assertEqual(play.winner() == 0, holds(BOOK, saying, {"x": Z}))

    def test_choices_that_are_not_allowed(self):
        trees = [Z, ONE, ("s", ONE)]
        wrong = ["x", "z", "", (), ("s",), ("s", "x"), ("t", Z), (Z,), ("pair", Z, Z), chain(100, Z)]
        for kind in ["and", "or"]:
            self.refuses(Play(BOOK, (kind, EVEN, ODD), {"x": Z}), -1, 2, 3, *trees, *wrong)
        for kind in ["all", "some"]:
            self.refuses(Play(BOOK, (kind, "x", EVEN), {}), 0, 1, -1, 2, *wrong)
        self.refuses(Play(BOOK, EVEN, {"x": Z}), 0, 1, *trees, *wrong)

    def test_largest_trees(self):
        bush = Z
        for _ in range(7):
            bush = ("pair", bush, bush)
        largest = ("pair", ("pair", bush, chain(60, Z)), chain(81, Z))
        self.assertEqual(size_of(largest), 400)
        play = Play(PAIRS, ("all", "x", EVEN), {})
        self.refuses(play, ("s", largest), ("pair", ("pair", bush, chain(61, Z)), chain(81, Z)), chain(100, Z))
        for tree in [largest, chain(99, Z)]:
            play.choose(tree)
            self.assertEqual(play.filling(), {"x": tree})
            self.assertEqual(play.winner(), 0 if holds(PAIRS, EVEN, {"x": tree}) else 1)
            play.back()

    def test_back(self):
        saying = ("all", "x", ("or", EVEN, ("some", "y", ("and", ODD, ("at", "odd", "y")))))
        play = Play(BOOK, saying, {})
        told_by = lambda: (play.saying(), play.filling(), play.side(), play.turn(), play.choices(), play.winner())
        places = [told_by()]
        for choice in [ONE, 1, chain(3, Z), 0]:
            play.choose(choice)
            places.append(told_by())
        self.assertEqual(play.turn(), -1)
        for place in places[-2::-1]:
            self.assertIsNone(play.back())
            self.assertEqual(told_by(), place)
        with self.assertRaises(Missing):
            play.back()
        self.assertEqual(told_by(), places[0])
        play.choose(Z)
        play.choose(0)
        self.assertEqual((play.choices(), play.winner()), ([Z, 0], 0))
        play.back()
        self.assertEqual((play.choices(), play.turn()), ([Z], 0))

    def test_names_that_quantifiers_use_again(self):
        inner = ("or", ODD, ("some", "x", ODD))
        play = Play(BOOK, ("all", "x", inner), {"x": ("s", ONE)})
        self.assertEqual(play.filling(), {})
        play.choose(Z)
        self.assertEqual((play.filling(), play.winner(), play.advice()), ({"x": Z}, 0, 1))
        play.choose(1)
        self.assertEqual(play.filling(), {})
        play.choose(ONE)
        self.assertEqual((play.filling(), play.turn(), play.winner()), ({"x": ONE}, -1, 0))

    def test_errors(self):
        for error, book, saying, filling in [
            (Missing, BOOK, EVEN, {}),
            (Missing, BOOK, UNLIKE, {"x": Z}),
            (Missing, BEYOND, ("at", "pa", "x"), {"y": Z}),
            (TooLarge, BEYOND, ("at", "pa", "x"), {"x": Z}),
            (TooLarge, BEYOND, ("at", "pa", Z), {}),
        ]:
            with self.assertRaises(error):
                Play(book, saying, filling)

    def test_two_plays(self):
        saying = ("all", "x", ("or", EVEN, ODD))
        one, other = Play(BOOK, saying, {}), Play(PAIRS, saying, {})
        one.choose(ONE)
        self.assertEqual((other.choices(), other.turn(), other.filling()), ([], 1, {}))
        other.choose(("pair", ONE, Z))
        one.choose(1)
        self.assertEqual((one.choices(), other.choices()), ([ONE, 1], [("pair", ONE, Z)]))
        self.assertEqual((one.winner(), other.winner()), (0, 1))
        one.back()
        other.back()
        self.assertEqual((one.filling(), other.filling()), ({"x": ONE}, {}))

    def test_nothing_is_changed_or_kept(self):
        filling = {"x": Z, "w": ONE}
        play = Play(BOOK, ("or", EVEN, ODD), filling)
        filling["x"] = ONE
        self.assertEqual((play.filling(), play.advice()), ({"x": Z}, 0))
        play.filling().clear()
        play.choices().append(0)
        self.assertEqual((play.filling(), play.choices(), filling), ({"x": Z}, [], {"x": ONE, "w": ONE}))
        play.choose(1)
        play.choices().clear()
        self.assertEqual(play.choices(), [1])

    def test_by_chance(self):
        chooser = random.Random(18)
        ends = []
        for _ in range(250):
            book = chance.some_book(chooser)
            table = table_of(book)
            if len(table[0]) > 4:
                continue
            saying = chance.some_saying(chooser, book, ["x", "y"], chooser.randint(1, 14), 3)
            filling = {name: chooser.choice(table[2]) for name in ["x", "y", "w"]}
            ends.append(self.play_on(chooser, book, table, Play(book, saying, copy.deepcopy(filling)), saying, filling))
        self.assertTrue(30 < ends.count(0) < len(ends) - 30)

    def play_on(self, chooser, book, table, play, saying, filling):
        """Play to the end: who can win takes the advice, and wins."""
        can_win = 0 if holds(book, saying, filling) else 1
        while play.turn() >= 0:
            self.assertEqual(play.winner(), can_win)
            numbers = [0, 1] if play.saying()[0] in ("and", "or") else list(table[2])
            winning = [choice for choice in numbers if self.wins(play, choice)]
            least = winning[0] if winning else None
            self.assertEqual(play.advice(), least)
            self.assertEqual(least is not None, play.turn() == can_win)
            play.choose(chooser.choice(numbers) if least is None else least)
        rows = {name: row_of(book[0], table[1], tree, {}) for name, tree in play.filling().items()}
        won = told.holds_told(book, table, play.saying(), rows)
        self.assertEqual(play.winner(), play.side() if won else 1 - play.side())
        self.assertEqual(play.winner(), can_win)
        return can_win

    def wins(self, play, choice):
        """Whether the player who has to choose can win behind a choice, which is taken back."""
        player = play.turn()
        play.choose(choice)
        winner = play.winner()
        play.back()
        return winner == player

    def test_time(self):
        book = read_book(examples.LARGE_UP)
        inner = ("at", "ma", ("pair", "x", ("node", "y", "u")))
        for number in range(26):
            term = ("node", ["x", "y", "u", "v"][number % 4], ("pair", "v", "x"))
            inner = (["or", "and"][number % 2], inner, ("at", "m" + "abcdef"[number % 6], term))
        saying = ("some", "x", ("all", "y", ("some", "u", ("all", "v", inner))))
        start = time.perf_counter()
        play = Play(book, saying, {})
        winner = play.winner()
        while play.turn() >= 0:
            advice = play.advice()
            fallback = 0 if play.saying()[0] in ("and", "or") else Z
            play.choose(fallback if advice is None else advice)
        self.assertEqual(play.winner(), winner)
        self.assertLess(time.perf_counter() - start, 15)


if __name__ == "__main__":
    unittest.main()
