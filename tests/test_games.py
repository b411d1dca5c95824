import itertools
import random
import time
import unittest

import fairplay
from pergola.books import check_book
from pergola.errors import Missing, NotAllowed, TooLarge
from pergola.games import MAX_STACK, at_goal, book_of, check_game, options, winner, winning
from pergola.readers import least_of, read_tree
from pergola.table import table_of

GAME = (
    (("q", 0), ("p", 1)),
    ("a", "b"),
    (("q", "a", "p", ()), ("p", "a", "q", ("a",)), ("p", "b", "q", ())),
    (("q", True),),
)
# All states belong to player 1, and there are three letters: that makes 24 without any goal.
ONES = (tuple((word, 1) for word in "pqrstu"), ("a", "b", "c"), (), ())


def with_part(game, at, part):
    return (*game[:at], part, *game[at + 1:])


def shuffled(rows):
    """The moves by which each state goes to the one below it, as the letters pop."""
    return tuple((state, letter, after, ()) for letter, row in rows for state, after in zip("pqrstu", row))


# The letters shuffle the states, or put two of them together. So many sets of states are those of a stack.
LARGE = (
    tuple((word, 0) for word in "pqrstu"),
    ("a", "b", "c"),
    shuffled([("a", "qrstup"), ("b", "qprstu"), ("c", "pprstu")]),
    (("p", True), ("r", True), ("t", True)),
)


class CheckTest(unittest.TestCase):
    def refused(self, game):
        with self.assertRaises(NotAllowed):
            check_game(game)

    def good(self, game):
        self.assertIsNone(check_game(game))

    def test_good(self):
        self.good(GAME)
        self.good(((("q", 0),), ("a",), (), ()))
        self.good(((("to", 1),), ("empty",), (("to", "empty", "to", ("empty", "empty")),), (("to", True), ("to", False))))

    def test_states(self):
        for many in range(9):
            states = tuple((word, 0) for word in "pqrstuvw"[:many])
            game = (states, ("a",), (), ())
            if 1 <= many <= 6:
                self.good(game)
            else:
                self.refused(game)
        for player in [-1, 2, 10]:
            self.refused(with_part(GAME, 0, (("q", 0), ("p", player))))
        for word in ["", "if", "Q", "abcdefghi", "q q", "bottom", "q", "a", "b", "mark"]:
            self.refused(with_part(GAME, 0, (("q", 0), ("p", 1), (word, 0))))
        for word in ["r", "abcdefgh", "to", "goal", "empty", "state"]:
            self.good(with_part(GAME, 0, (("q", 0), ("p", 1), (word, 0))))

    def test_letters(self):
        for many in range(6):
            game = ((("q", 0),), tuple("abcde"[:many]), (), ())
            if 1 <= many <= 3:
                self.good(game)
            else:
                self.refused(game)
        for word in ["", "if", "A", "abcdefghi", "bottom", "q", "p", "a", "b"]:
            self.refused(with_part(GAME, 1, ("a", "b", word)))
        self.good(with_part(GAME, 1, ("a", "b", "abcdefgh")))
        self.refused(((("q", 0),), (), (), (("q", True),)))
        self.refused(((), (), (), ()))

    def test_moves(self):
        for move in [("r", "a", "q", ()), ("q", "c", "q", ()), ("q", "a", "a", ()), ("q", "a", "q", ("c",)), ("q", "q", "q", ()),
                     ("q", "a", "q", ("a", "q")), ("q", "a", "q", ("a", "a", "a")), ("q", "bottom", "q", ()),
                     ("q", "a", "q", ("bottom",)), ("a", "a", "q", ()), GAME[2][0]]:
            self.refused(with_part(GAME, 2, (*GAME[2], move)))
        for move in [("q", "a", "q", ()), ("q", "b", "p", ("b", "b")), ("p", "b", "p", ()), ("q", "a", "p", ("a",))]:
            self.good(with_part(GAME, 2, (*GAME[2], move)))
        # The players' states may have as many moves as the bound of all allows.
        words = [(), ("a",), ("b",), ("a", "a"), ("a", "b")]
        many = [("p", "a", "q", word) for word in words]
        self.good(with_part(GAME, 2, tuple(many[:4])))
        self.refused(with_part(GAME, 2, tuple(many)))
        self.good(with_part(GAME, 2, (*many[:4], *[("p", "b", "q", word) for word in words[:4]])))
        self.good(with_part(GAME, 2, tuple(("q", "a", "q", word) for word in words)))

    def test_goals(self):
        self.good(with_part(GAME, 3, ()))
        self.good(with_part(GAME, 3, (("q", True), ("q", False), ("p", True), ("p", False))))
        for goal in [("r", True), ("a", False), ("", True), ("bottom", True), ("q", True)]:
            self.refused(with_part(GAME, 3, (*GAME[3], goal)))

    def test_bound(self):
        self.good(ONES)
        self.refused(with_part(ONES, 3, (("p", True),)))
        moves = [(state, letter, "p", word) for state, _ in ONES[0] for letter in "abc" for word in [(), ("a",), ("b",), ("c",)]]
        self.good(with_part(ONES, 2, tuple(moves)))
        words = [(), ("a",), ("b",), ("a", "a"), ("a", "b"), ("b", "a"), ("b", "b")]
        every = [("q", letter, state, word) for letter in "ab" for state in "qp" for word in words]
        for goals in [(), (("q", True),), (("q", True), ("q", False), ("p", True), ("p", False))]:
            for many in range(18, 25):
                game = ((("q", 0), ("p", 1)), ("a", "b"), tuple(every[:many]), goals)
                if many + 3 + len(goals) <= 24:
                    self.good(game)
                else:
                    self.refused(game)
        only = [("q", letter, "q", word) for letter in "abc" for word in [(), ("a",), ("b",), ("c",), ("a", "a"), ("a", "b"), ("b", "b"), ("c", "b"), ("a", "c")]]
        self.good(((("q", 0),), ("a", "b", "c"), tuple(only[:24]), ()))
        self.refused(((("q", 0),), ("a", "b", "c"), tuple(only[:25]), ()))


class BookTest(unittest.TestCase):
    def test_rules_in_their_order(self):
        game = (
            (("q", 0), ("p", 1)),
            ("a", "b"),
            (("p", "b", "q", ("a", "b")), ("q", "b", "p", ()), ("q", "a", "q", ("b",)), ("p", "b", "p", ()), ("q", "b", "q", ("b", "a"))),
            (("p", True), ("q", False)),
        )
        book = book_of(game)
        self.assertIsNone(check_book(book))
        self.assertEqual(book[0], (("a", 1), ("b", 1), ("bottom", 0)))
        self.assertEqual(book[1], (("q", 0), ("p", 0)))
        self.assertEqual(book[2], (
            ("p", ("bottom",), ()),
            ("q", "x", ()),
            ("p", ("bottom",), ()),
            ("q", ("a", "x"), ((True, "q", ("b", "x")),)),
            ("q", ("b", "x"), ((True, "p", "x"),)),
            ("q", ("b", "x"), ((True, "q", ("b", ("a", "x"))),)),
            ("p", ("a", "x"), ()),
            ("p", ("b", "x"), ((True, "q", ("a", ("b", "x"))), (True, "p", "x"))),
        ))

    def test_the_name(self):
        for letters, name in [(("a",), "x"), (("x",), "y"), (("y",), "x"), (("x", "y"), "z"), (("z", "x", "y"), "w"), (("x", "z"), "y")]:
            letter = letters[0]
            game = ((("w", 0),), letters, (("w", letter, "w", ()),), (("w", False),))
            self.assertEqual(book_of(game)[2], (("w", name, ()), ("w", (letter, name), ((True, "w", name),))))
            self.assertIsNone(check_book(book_of(game)))

    def test_books_of_the_largest_games(self):
        self.assertEqual(len(book_of(ONES)[2]), 24)
        self.assertIsNone(check_book(book_of(ONES)))
        chooser = random.Random(62)
        for _ in range(200):
            game = fairplay.some_game(chooser, 6, 3)
            self.assertIsNone(check_game(game))
            book = book_of(game)
            self.assertIsNone(check_book(book))
            ones = [state for state, player in game[0] if player]
            chosen = [move for move in game[2] if move[0] not in ones]
            self.assertEqual(len(book[2]), len(game[3]) + len(ones) * (1 + len(game[1])) + len(chosen))


class PlayingTest(unittest.TestCase):
    def test_examples(self):
        self.assertEqual(winner(GAME, "q", ("a", "b")), 0)
        self.assertEqual(winner(GAME, "q", ("a", "a", "b")), 0)
        self.assertEqual(winner(GAME, "q", ("b",)), 1)

    def test_options(self):
        self.assertEqual(options(GAME, "q", ("a", "b")), [0])
        self.assertEqual(options(GAME, "p", ("a",)), [1])
        self.assertEqual(options(GAME, "p", ("b", "a")), [2])
        self.assertEqual(options(GAME, "q", ("b",)), [])
        self.assertEqual(options(GAME, "q", ()), [])
        self.assertEqual(options(GAME, "p", ()), [])
        more = with_part(GAME, 2, (*GAME[2], ("p", "a", "p", ())))
        self.assertEqual(options(more, "p", ("a",)), [1, 3])
        # Nothing is possible at a goal.
        goal = with_part(more, 3, (("p", False),))
        self.assertEqual(options(goal, "p", ("a",)), [])
        self.assertEqual(options(goal, "q", ("a",)), [0])

    def test_goals(self):
        self.assertTrue(at_goal(GAME, "q", ()))
        for state, stack in [("q", ("a",)), ("p", ()), ("p", ("b",))]:
            self.assertIs(at_goal(GAME, state, stack), False)
        goal = with_part(GAME, 3, (("p", False),))
        for stack in [(), ("a",), ("b", "a", "b")]:
            self.assertIs(at_goal(goal, "p", stack), True)
            self.assertIs(at_goal(goal, "q", stack), False)
            self.assertEqual(winner(goal, "p", stack), 0)

    def test_nothing_possible(self):
        """Who cannot move has lost, player 1 also with the empty stack."""
        game = with_part(GAME, 3, ())
        self.assertEqual(winner(game, "q", ()), 1)
        self.assertEqual(winner(game, "p", ()), 0)
        self.assertEqual(winner(game, "q", ("b",)), 1)
        none = with_part(game, 2, ())
        self.assertEqual(winner(none, "p", ("b",)), 0)
        self.assertEqual(winner(none, "q", ("b",)), 1)
        self.assertEqual(winner(with_part(none, 3, (("q", True),)), "q", ()), 0)
        self.assertEqual(winner(with_part(none, 3, (("q", True),)), "q", ("a",)), 1)

    def test_games_that_never_end(self):
        """Player 1 wins a game without end."""
        for player in [0, 1]:
            ring = ((("q", player), ("p", 0)), ("a",), (("q", "a", "p", ("a",)), ("p", "a", "q", ("a",))), (("q", True),))
            self.assertEqual(winner(ring, "q", ("a",)), 1)
            growing = ((("q", player),), ("a",), (("q", "a", "q", ("a", "a")),), (("q", True),))
            self.assertEqual(winner(growing, "q", ("a",)), 1)
            way_out = with_part(growing, 2, (*growing[2], ("q", "a", "q", ())))
            self.assertEqual(winner(way_out, "q", ("a",) * 99), player)

    def test_stacks_of_99_and_100_letters(self):
        self.assertEqual(MAX_STACK, 99)
        for stack, won in [(("a",) * 99, 0), (("a",) * 98 + ("b",), 0), (("a", "a") + ("b",) * 97, 1)]:
            self.assertEqual(winner(GAME, "q", stack), won)
            self.assertEqual(options(GAME, "q", stack), [0])
            self.assertIs(at_goal(GAME, "q", stack), False)
        for function in [winner, options, at_goal]:
            for stack in [("a",) * 100, ("a",) * 101, ("c",), ("a", "c"), ("bottom",), ("q",), ("",), ("a",) * 98 + ("A",)]:
                with self.assertRaises(NotAllowed):
                    function(GAME, "q", stack)
            for state in ["r", "a", "", "bottom", "Q"]:
                for stack in [(), ("a",), ("c",), ("a",) * 100]:
                    with self.assertRaises(Missing):
                        function(GAME, state, stack)

    def test_rounds(self):
        """Player 0 wins from all positions from which it wins by short games, and the table tells the rest."""
        chooser = random.Random(63)
        for _ in range(60):
            game = fairplay.some_game(chooser, 3, 2)
            low = fairplay.won_by_rounds(game, 3)
            high = fairplay.won_by_rounds(game, 5)
            for many in range(4):
                for stack in itertools.product(game[1], repeat=many):
                    for state, _ in game[0]:
                        won = winner(game, state, stack) == 0
                        self.assertGreaterEqual(won, (state, stack) in low)
                        self.assertGreaterEqual(won, (state, stack) in high)
                        behind = [winner(game, *after) == 0 for _, after in fairplay.moves_at(game, (state, stack)) if len(after[1]) <= 99]
                        goal = fairplay.is_goal(game, (state, stack))
                        player = dict(game[0])[state]
                        self.assertEqual(won, goal or (any(behind) if player == 0 else all(behind)))
                        self.assertEqual(at_goal(game, state, stack), goal)
                        told = [index for index, _ in fairplay.moves_at(game, (state, stack))]
                        self.assertEqual(options(game, state, stack), told)

    def test_games_without_push(self):
        """Where stacks never grow, the rounds among small stacks tell just who wins."""
        chooser = random.Random(64)
        for _ in range(60):
            game = fairplay.some_game(chooser, 4, 2)
            game = with_part(game, 2, tuple(move for move in game[2] if len(move[3]) < 2))
            told = fairplay.won_by_rounds(game, 4)
            for many in range(5):
                for stack in itertools.product(game[1], repeat=many):
                    for state, _ in game[0]:
                        self.assertEqual(winner(game, state, stack) == 0, (state, stack) in told)


class WinningTest(unittest.TestCase):
    def stack_tree(self, stack):
        tree = ("bottom",)
        for letter in stack[::-1]:
            tree = (letter, tree)
        return tree

    def test_reader(self):
        for state in ["q", "p"]:
            reader = winning(GAME, state)
            signs = book_of(GAME)[0]
            self.assertEqual(least_of(signs, reader), reader)
            for many in range(6):
                for stack in itertools.product("ab", repeat=many):
                    label = (state,) if winner(GAME, state, stack) == 0 else ()
                    self.assertEqual(read_tree(signs, reader, self.stack_tree(stack)), label)

    def test_missing(self):
        for state in ["r", "a", "", "bottom"]:
            with self.assertRaises(Missing):
                winning(GAME, state)

    def test_chance(self):
        chooser = random.Random(65)
        for _ in range(30):
            game = fairplay.some_game(chooser, 3, 2)
            state = chooser.choice(game[0])[0]
            reader = winning(game, state)
            for _ in range(10):
                stack = tuple(chooser.choice(game[1]) for _ in range(chooser.randint(0, 8)))
                label = (state,) if winner(game, state, stack) == 0 else ()
                self.assertEqual(read_tree(book_of(game)[0], reader, self.stack_tree(stack)), label)


class LargeTest(unittest.TestCase):
    def test_too_large(self):
        game = LARGE
        self.assertIsNone(check_game(game))
        with self.assertRaises(TooLarge):
            table_of(book_of(game))
        state = game[0][0][0]
        with self.assertRaises(TooLarge):
            winner(game, state, ())
        with self.assertRaises(TooLarge):
            winning(game, state)
        with self.assertRaises(Missing):
            winner(game, "no", ())
        with self.assertRaises(Missing):
            winning(game, "no")
        with self.assertRaises(NotAllowed):
            winner(game, state, ("no",))
        # These two need no table.
        self.assertIs(at_goal(game, state, (game[1][0],)), False)
        self.assertIsInstance(options(game, state, (game[1][0],)), list)

    def test_time(self):
        chooser = random.Random(66)
        start = time.perf_counter()
        for _ in range(60):
            game = fairplay.some_game(chooser, 6, 3)
            try:
                winner(game, game[0][0][0], tuple(chooser.choice(game[1]) for _ in range(99)))
            except TooLarge:
                pass
        self.assertLess(time.perf_counter() - start, 20)


if __name__ == "__main__":
    unittest.main()
