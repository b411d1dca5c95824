import random
import time
import unittest

import fairplay
from test_games import GAME, LARGE
from pergola.errors import Missing, NotAllowed, TooLarge
from pergola.games import winner
from pergola.plans import Plan


def bound(game):
    states, letters = len(game[0]), len(game[1])
    return states * (letters * 3 ** states + 1)


class PlanTest(unittest.TestCase):
    def refused(self, error, function, *arguments):
        with self.assertRaises(error):
            function(*arguments)

    def test_a_play(self):
        plan = Plan(GAME, "q", ("a", "a", "b"))
        self.assertEqual(plan.position(), ("q", ("a", "a", "b")))
        self.assertEqual(plan.winner(), 0)
        self.assertEqual((plan.options(), plan.advice()), ([0], 0))
        before = plan.ranks()
        self.assertEqual(len(before), 3)
        self.assertIsNone(plan.play(0))
        self.assertEqual(plan.position(), ("p", ("a", "b")))
        self.assertTrue(fairplay.falls(before, plan.ranks()))
        self.refused(Missing, plan.advice)
        for index in (1, 0, 2):
            self.assertEqual(plan.options(), [index])
            plan.play(index)
        self.assertEqual((plan.position(), plan.winner(), plan.options(), plan.ranks()), (("q", ()), 0, [], []))
        self.refused(Missing, plan.advice)
        for index in [-1, 0, 1, 2, 3, 100]:
            self.refused(Missing, plan.play, index)
        self.assertEqual(plan.position(), ("q", ()))

    def test_player_1_wins(self):
        game = ((("q", 0), ("p", 1)), ("a", "b"),
                (("q", "a", "p", ("a",)), ("p", "a", "q", ()), ("p", "a", "q", ("a",)), ("q", "a", "q", ())), (("q", True),))
        plan = Plan(game, "q", ("a", "b"))
        self.assertEqual((plan.winner(), plan.ranks()), (1, []))
        self.refused(Missing, plan.advice)
        plan.play(0)
        self.assertEqual(plan.position(), ("p", ("a", "b")))
        self.assertEqual(plan.winner(), 1)
        self.assertIn(plan.advice(), [1, 2])
        plan.play(2)
        self.assertEqual(plan.winner(), 1)
        # If player 0 wins with the stack of one letter, player 1 goes on without end where it can.
        plan = Plan(game, "p", ("a",))
        self.assertEqual(plan.winner(), 0)
        self.refused(Missing, plan.advice)

    def test_only_one_way_for_player_1(self):
        game = ((("p", 1), ("q", 0)), ("a",), (("p", "a", "q", ()), ("p", "a", "p", ("a",)), ("q", "a", "q", ())), (("q", True),))
        plan = Plan(game, "p", ("a",))
        for _ in range(5):
            self.assertEqual((plan.winner(), plan.advice(), plan.options()), (1, 1, [0, 1]))
            plan.play(plan.advice())
        # A mistake of player 1, and player 0 wins.
        plan.play(0)
        self.assertEqual((plan.position(), plan.winner()), (("q", ()), 0))

    def test_mistakes(self):
        """Player 0 may leave the plan, to where it wins all the same, or to where it does not."""
        game = ((("q", 0), ("r", 0)), ("a", "b"),
                (("q", "a", "q", ("a", "a")), ("q", "a", "q", ()), ("q", "a", "r", ("a",)), ("r", "b", "r", ())), (("q", True),))
        plan = Plan(game, "q", ("a",))
        for many in range(1, 60):
            self.assertEqual(plan.advice(), 1)
            self.assertEqual(len(plan.ranks()), many)
            plan.play(0)
        while plan.options():
            before = plan.ranks()
            plan.play(plan.advice())
            self.assertTrue(fairplay.falls(before, plan.ranks()))
        self.assertEqual((plan.position(), plan.winner()), (("q", ()), 0))
        plan = Plan(game, "q", ("a", "a"))
        plan.play(2)
        self.assertEqual((plan.winner(), plan.ranks(), plan.options()), (1, [], []))
        self.refused(Missing, plan.advice)

    def test_stacks_that_grow(self):
        """In a play a stack may have more than 99 letters."""
        game = ((("q", 0), ("p", 1)), ("a",),
                (("q", "a", "p", ("a", "a")), ("p", "a", "q", ("a", "a")), ("p", "a", "p", ())), (("p", True),))
        plan = Plan(game, "q", ("a",) * 99)
        self.assertEqual(plan.winner(), 1)
        self.refused(Missing, plan.advice)
        for many in range(99, 160):
            state, stack = plan.position()
            self.assertEqual(stack, ("a",) * many)
            if state == "p":
                self.assertEqual(plan.advice(), 1)
            plan.play(plan.options()[0])
        self.assertEqual(len(plan.position()[1]), 160)
        double = ((("q", 0), ("r", 0)), ("a", "b"), (("q", "a", "q", ("b", "b")), ("q", "b", "q", ()), ("q", "b", "q", ("a", "a"))), (("q", True),))
        plan = Plan(double, "q", ("a",) * 99)
        plan.play(0)
        self.assertEqual((len(plan.position()[1]), plan.winner(), len(plan.ranks())), (100, 0, 100))
        steps = 0
        while plan.options():
            before = plan.ranks()
            plan.play(plan.advice())
            self.assertTrue(fairplay.falls(before, plan.ranks()))
            steps += 1
        self.assertEqual((plan.position(), plan.winner(), steps), (("q", ()), 0, 2 + 3 * 98))

    def test_errors(self):
        for state in ["r", "", "a", "bottom"]:
            self.refused(Missing, Plan, GAME, state, ("c",))
        for stack in [("c",), ("a",) * 100, ("bottom",), ("a", "q")]:
            self.refused(NotAllowed, Plan, GAME, "q", stack)
            self.refused(NotAllowed, Plan, LARGE, "q", ("a",) * 100)
        self.refused(TooLarge, Plan, LARGE, "q", ("a",))
        self.refused(Missing, Plan, LARGE, "no", ("a",))
        plan = Plan(GAME, "q", ("a",) * 99)
        self.assertEqual(plan.position(), ("q", ("a",) * 99))

    def test_wrong_moves_change_nothing(self):
        plan = Plan(GAME, "q", ("a", "b"))
        for index in [-1, 1, 2, 3, 1000, -1000]:
            self.refused(Missing, plan.play, index)
        self.assertEqual((plan.position(), plan.options()), (("q", ("a", "b")), [0]))
        plan.options().clear()
        ranks = plan.ranks()
        plan.ranks().clear()
        self.assertEqual((plan.options(), plan.ranks()), ([0], ranks))

    def test_two_plays(self):
        one = Plan(GAME, "q", ("a", "b"))
        other = Plan(GAME, "q", ("a", "b"))
        one.play(0)
        self.assertEqual((one.position(), other.position()), (("p", ("b",)), ("q", ("a", "b"))))

    def test_against_all_moves(self):
        """Who follows the advice comes to an end at which player 0 has won, whatever player 1 does."""
        chooser = random.Random(67)
        ended = 0
        while ended < 250:
            game = fairplay.some_game(chooser, 4, 2)
            state = chooser.choice(game[0])[0]
            stack = tuple(chooser.choice(game[1]) for _ in range(chooser.randint(1, 4)))
            if winner(game, state, stack) == 0:
                ended += self.all_plays(game, state, stack)

    def all_plays(self, game, state, stack):
        flat = all(len(word) < 2 for _, _, _, word in game[2])
        waiting = [()]
        many = 0
        while waiting and many < 40:
            chosen = waiting.pop()
            plan = Plan(game, state, stack)
            seen = {}
            at = 0
            while plan.options():
                position, before = plan.position(), plan.ranks()
                self.assertEqual(plan.winner(), 0)
                self.assertEqual(len(before), len(position[1]))
                self.assertTrue(all(0 <= rank < bound(game) for rank in before))
                if flat:
                    self.assertNotIn(position, seen)
                seen[position] = True
                if dict(game[0])[position[0]] == 0:
                    index = plan.advice()
                    self.assertIn(index, plan.options())
                else:
                    if at == len(chosen):
                        waiting.extend((*chosen, other) for other in plan.options()[1:])
                        chosen = (*chosen, plan.options()[0])
                    index = chosen[at]
                    at += 1
                plan.play(index)
                self.assertTrue(fairplay.falls(before, plan.ranks()))
            goal = fairplay.is_goal(game, plan.position())
            self.assertTrue(goal or dict(game[0])[plan.position()[0]] == 1)
            self.assertEqual(plan.winner(), 0)
            many += 1
        return many

    def test_advice_of_player_1(self):
        chooser = random.Random(68)
        tried = 0
        while tried < 400:
            game = fairplay.some_game(chooser, 4, 2)
            state = chooser.choice(game[0])[0]
            stack = tuple(chooser.choice(game[1]) for _ in range(chooser.randint(1, 4)))
            plan = Plan(game, state, stack)
            for _ in range(30):
                state, stack = plan.position()
                self.assertEqual(plan.ranks() == [] or plan.winner() == 0, True)
                if not plan.options():
                    break
                if len(stack) <= 90:
                    self.assertEqual(plan.winner(), winner(game, state, stack))
                if plan.winner() == dict(game[0])[state]:
                    index = plan.advice()
                    self.assertIn(index, plan.options())
                    plan.play(index)
                    self.assertEqual(plan.winner(), dict(game[0])[state])
                    tried += plan.winner() == 1
                else:
                    with self.assertRaises(Missing):
                        plan.advice()
                    plan.play(chooser.choice(plan.options()))

    def test_deep_ranks(self):
        """One word of two letters after another: each letter has a rank of its own."""
        states = tuple((word, 0) for word in "pqrstu")
        moves = []
        for at, word in enumerate("pqrst"):
            moves.append((word, "a", "pqrstu"[at + 1], ("a", "b")))
            moves.append((word, "b", "pqrstu"[at + 1], ()))
        moves += [("u", "a", "p", ()), ("u", "b", "p", ())]
        game = (states, ("a", "b"), tuple(moves), (("q", True),))
        won = 0
        for state, _ in states:
            for many in range(1, 5):
                plan = Plan(game, state, ("a",) * many)
                for _ in range(500):
                    if plan.winner() == 1 or not plan.options():
                        break
                    before = plan.ranks()
                    plan.play(plan.advice())
                    self.assertTrue(fairplay.falls(before, plan.ranks()))
                    won += 1
        self.assertGreater(won, 10)

    def test_time(self):
        chooser = random.Random(69)
        start = time.perf_counter()
        tried = 0
        while tried < 40:
            game = fairplay.some_game(chooser, 6, 3)
            if len(game[0]) < 6:
                continue
            try:
                plan = Plan(game, game[0][0][0], tuple(chooser.choice(game[1]) for _ in range(99)))
            except TooLarge:
                continue
            tried += 1
            for _ in range(100):
                if not plan.options():
                    break
                plan.play(chooser.choice(plan.options()))
                plan.ranks()
        self.assertLess(time.perf_counter() - start, 20)


if __name__ == "__main__":
    unittest.main()
