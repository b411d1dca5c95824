import random
import unittest

import fairplay
from test_games import GAME, ONES
from pergola.errors import BadForm
from pergola.games import check_game
from pergola.gametexts import MAX_GAME_TEXT, game_text, read_game

TEXT = """state q 0
state p 1
letter a
letter b
move q a to p
move p a to q a
move p b to q
goal q empty
"""


def lines(*rows):
    return "".join(f"{row}\n" for row in rows)


START = lines("state q 0", "state p 1", "letter a", "letter b")


class TextTest(unittest.TestCase):
    def test_plain_text(self):
        self.assertEqual(game_text(GAME), TEXT)
        self.assertEqual(read_game(TEXT), GAME)
        game = ((("q", 0),), ("a", "b"), (("q", "a", "q", ("b", "a")),), (("q", False), ("q", True)))
        text = lines("state q 0", "letter a", "letter b", "move q a to q b a", "goal q", "goal q empty")
        self.assertEqual(game_text(game), text)
        self.assertEqual(read_game(text), game)

    def test_words_of_the_lines_as_words(self):
        """The words of the lines may be states and letters."""
        game = (
            (("to", 0), ("empty", 1), ("state", 0)),
            ("letter", "move", "goal"),
            (("to", "letter", "to", ("move", "goal")), ("empty", "goal", "empty", ()), ("state", "move", "to", ("letter",))),
            (("empty", True), ("empty", False), ("to", False)),
        )
        check_game(game)
        self.assertEqual(read_game(game_text(game)), game)
        self.assertTrue(game_text(game).endswith("goal empty empty\ngoal empty\ngoal to\n"))

    def test_chance(self):
        chooser = random.Random(66)
        for _ in range(300):
            game = fairplay.some_game(chooser, 6, 3)
            self.assertEqual(read_game(game_text(game)), game)
            self.assertEqual(read_game(game_text(game)[:-1]), game)
            loose = "".join(chooser.choice([" ", "", "  "]) + line.replace(" ", "   ") + "  \n   \n\n" for line in game_text(game).split("\n"))
            self.assertEqual(read_game(loose), game)
        self.assertEqual(read_game(game_text(ONES)), ONES)


class SpaceTest(unittest.TestCase):
    def test_spaces(self):
        self.assertEqual(read_game(TEXT.replace(" ", "    ")), GAME)
        self.assertEqual(read_game("\n \n" + TEXT.replace("\n", "  \n  \n\n  ")), GAME)
        self.assertEqual(read_game(TEXT[:-1]), GAME)
        self.assertEqual(read_game(TEXT + "\n\n  \n"), GAME)
        self.assertEqual(read_game(TEXT.replace("q 0", "q0").replace("p 1", "p1")), GAME)

    def test_words_need_spaces(self):
        for old, new in [("state q 0", "stateq 0"), ("letter a", "lettera"), ("move q a", "moveq a"), ("to p", "top"),
                         ("goal q empty", "goal qempty"), ("goal q empty", "goalq empty"), ("q a to", "qa to")]:
            with self.assertRaises(BadForm):
                read_game(TEXT.replace(old, new, 1))


class BadTest(unittest.TestCase):
    def bad(self, text, line):
        with self.assertRaises(BadForm) as caught:
            read_game(text)
        self.assertEqual(caught.exception.line, line, text)

    def bad_behind(self, start, row):
        many = start.count("\n")
        self.bad(start + row, many + 1)
        self.bad(f"{start}{row}\nnonsense\n", many + 1)
        self.bad(f"\n  \n{start}\n{row}", many + 4)

    def test_forms(self):
        for row in ["state", "state r", "state r 0 0", "state r 2", "state r 00", "state r -1", "state 0 r", "State r 0", "state r x",
                    "letter", "letter c c", "letter c 0", "letter c,", "letter C", "letter (c)", "letters c",
                    "x", "move", "goal", "q", "0", ";", "state r 0;", "letter c;"]:
            self.bad_behind(lines("state q 0"), row)
        for row in ["move q a p", "move q a to", "move q to p", "move q a to p a a a", "move q a to to p", "move q a to p, a", "move q a 0",
                    "move", "move q", "move q a", "to q", "goal", "goal q empty empty", "goal q full", "goal q 1", "goal q, empty", "goals q"]:
            self.bad_behind(START, row)

    def test_words(self):
        for word in ["if", "abcdefghi", "bottom", "q", "end"]:
            self.bad_behind(lines("state q 0"), f"state {word} 0")
            self.bad_behind(lines("state q 0"), f"letter {word}")
        self.bad_behind(START.replace("letter b\n", ""), "letter a")
        self.bad_behind(START, "letter p")

    def test_too_many(self):
        six = lines(*[f"state {word} 0" for word in "pqrstu"])
        self.bad_behind(six, "state v 0")
        self.bad_behind(lines("state q 0", "letter a", "letter b", "letter c"), "letter d")

    def test_order_of_lines(self):
        self.bad_behind("", "letter a")
        self.bad_behind("", "move q a to q")
        self.bad_behind("", "goal q")
        self.bad_behind(lines("state q 0"), "move q a to q")
        self.bad_behind(lines("state q 0"), "goal q")
        self.bad_behind(lines("state q 0"), "goal q empty")
        self.bad_behind(START, "state r 0")
        for row in ["state r 0", "letter c"]:
            self.bad_behind(START + lines("move q a to q"), row)
            self.bad_behind(START + lines("goal q"), row)
        self.bad_behind(START + lines("goal q"), "move q a to q")
        self.assertEqual(read_game(START + lines("goal q"))[3], (("q", False),))

    def test_what_is_not_there(self):
        for row in ["move r a to q", "move q c to q", "move q a to r", "move q a to q c", "move q a to q a c", "move a a to q",
                    "move q q to q", "move q bottom to q", "goal r", "goal a", "goal bottom empty"]:
            self.bad_behind(START, row)

    def test_twice(self):
        self.bad_behind(START + lines("move q a to q"), "move q a to q")
        self.bad_behind(START + lines("goal q"), "goal q")
        self.bad_behind(START + lines("goal q empty"), "goal  q empty")
        self.assertEqual(read_game(START + lines("goal q", "goal q empty"))[3], (("q", False), ("q", True)))

    def test_five_moves_of_player_1(self):
        moves = lines("move p a to q", "move p a to p", "move p a to q a", "move p a to p a")
        self.assertEqual(len(read_game(START + moves)[2]), 4)
        self.bad_behind(START + moves, "move p a to q b")
        self.assertEqual(len(read_game(START + moves + "move p b to q b")[2]), 5)

    def test_bound(self):
        """Goals, states of player 1 times one more than the letters, and moves of player 0 are at most 24."""
        words = ["", " a", " b", " a a", " a b", " b a", " b b"]
        moves = [f"move q {letter} to {state}{word}" for letter in "ab" for state in "qp" for word in words]
        for many in [20, 21]:
            text = START + lines(*moves[:many])
            self.assertEqual(len(read_game(text)[2]), many)
        self.bad_behind(START + lines(*moves[:21]), moves[21])
        self.bad_behind(START + lines(*moves[:21]), "goal q")
        self.assertEqual(len(read_game(START + lines(*moves[:21], "move p a to q"))[2]), 22)
        self.assertEqual(len(read_game(START + lines(*moves[:20], "goal q"))[3]), 1)
        self.bad_behind(START + lines(*moves[:20], "goal q"), "goal p")
        six = lines(*[f"state {word} 1" for word in "pqrstu"], "letter a", "letter b", "letter c")
        self.assertEqual(read_game(six), (ONES[0], ONES[1], (), ()))
        self.bad_behind(six, "goal p")

    def test_no_letter(self):
        self.bad(lines("state q 0"), 2)
        self.bad("state q 0", 2)
        self.bad(lines("state q 0", "", "state p 1", "  "), 5)
        self.bad("", 1)
        self.bad("\n\n", 3)

    def test_length(self):
        self.assertEqual(MAX_GAME_TEXT, 4000)
        self.assertEqual(read_game(TEXT + " " * (4000 - len(TEXT))), GAME)
        self.bad(TEXT + " " * (4001 - len(TEXT)), 0)
        self.bad("nonsense" * 600, 0)
        self.bad("x" * 4000, 1)


if __name__ == "__main__":
    unittest.main()
