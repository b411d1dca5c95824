import time
import unittest

import examples
from pergola.bookreader import read_book
from pergola.bookwriter import rule_text
from pergola.counts import count_with
from pergola.desk import MAX_LINES, MAX_SCRIPT, run_script
from pergola.errors import NotAllowed

START = ["begin z 0 s 1 ; even 0 odd 0", "rule even(z)", "rule odd(s(x)) if even(x)", "rule even(s(x)) if odd(x)"]


def run(*lines):
    return run_script("\n".join(lines))


class DeskTest(unittest.TestCase):
    def behind(self, *lines):
        """The answers to lines behind the start."""
        answers = run(*START, *lines)
        self.assertEqual(answers[:4], ["ok", "1", "2", "3"])
        return answers[4:]

    def told(self, line, answer):
        self.assertEqual(self.behind(line), [answer], line)

    def test_examples(self):
        script = "begin z 0 s 1 ; even 0 odd 0\nrule even(z)\nrule odd(s(x)) if even(x)\nask all x (even(x) or odd(x))\nfind odd(x)\nmarks s(s(z))"
        self.assertEqual(run_script(script), ["ok", "1", "2", "no", "x = s(z)", "-"])
        self.assertEqual(run_script("rows\ngame state q 0;letter a;move q a to q;goal q empty\nwin q a a\nundo now"), ["none", "ok", "0", "bad"])

    def test_empty_lines(self):
        self.assertEqual(run_script(""), [""])
        self.assertEqual(run_script("\n\n"), ["", "", ""])
        self.assertEqual(run_script("rows\n"), ["none", ""])

    def test_no_store(self):
        lines = ["rule even(z)", "rule ", "drop 1", "keep x", "let 1", "undo", "since 0", "ask x", "find x", "marks x", "rows", "row 0", "reader",
                 "reader even", "count even 1", "tree even 1 0", "place even x"]
        self.assertEqual(run(*lines), ["none"] * len(lines))
        self.assertEqual(run("begin ;", *lines), ["refused"] + ["none"] * len(lines))
        self.assertEqual(run("rule", "drop x", "undo 1", "rows 1", "place even"), ["bad"] * 5)

    def test_no_game(self):
        self.assertEqual(run("win q", "win q a", "win", "win 1"), ["none", "none", "missing", "bad"])
        self.assertEqual(run("game x", "win q", "win"), ["form", "none", "missing"])
        self.assertEqual(self.behind("win q", "rows"), ["none", "2"])

    def test_begin(self):
        self.assertEqual(run("begin ;", "begin z 0 ;", "begin ; even 0", "begin s 1 ; even 0", "begin z 0 ; z 0", "begin z 3 ; even 0", "rows"),
                         ["refused"] * 6 + ["none"])
        self.assertEqual(run("begin z 0 ; even 3", "begin if 0 ; even 0", "begin abcdefghi 0 ; even 0", "begin z 0 ; even 2", "rows"),
                         ["refused"] * 3 + ["ok", "1"])
        # A store in the place of the one before, and a refused one that changes nothing.
        self.assertEqual(self.behind("begin ;", "rows", "begin o 0 ; m 0", "rows", "row 0", "undo"), ["refused", "2", "ok", "1", "- : o", "missing"])

    def test_rule(self):
        self.assertEqual(self.behind("rule odd(z)", "rule  odd ( s(x) )", "marks z"), ["4", "5", "even odd"])
        for text in ["", " ", "odd", "no(z)", "odd(s(z))", "odd(x) if even(u), odd(v)", "odd(z) x", "odd(z) if not even(z)"]:
            self.told(f"rule {text}", "form")
        self.assertEqual(self.behind("keep not odd(z)", "rule odd(z)", "rows", "rule even(z)"), ["1", "broken 1", "2", "4"])
        many = ["begin z 0 ; m 0", *["rule m(z)"] * 26]
        self.assertEqual(run(*many), ["ok", *[str(number) for number in range(1, 25)], "large", "large"])

    def test_drop(self):
        self.assertEqual(self.behind("drop 3", "drop 3", "drop 0", "drop 9999999", "rows", "rule odd(z)"), ["ok", "missing", "missing", "missing", "3", "4"])
        self.assertEqual(self.behind("keep all x (even(x) or odd(x))", "drop 3", "rows"), ["1", "broken 1", "2"])

    def test_keep_and_let(self):
        self.assertEqual(self.behind("keep not odd(z)", "keep odd(z)", "keep odd(x)", "keep odd(", "keep ", "keep not odd(z)"),
                         ["1", "broken 2", "refused", "form", "form", "2"])
        self.assertEqual(self.behind("keep not odd(z)", "let 2", "let 1", "let 1", "let 0", "keep even(z)"), ["1", "missing", "ok", "missing", "missing", "2"])
        self.assertEqual(self.behind(*["keep even(z)"] * 9, "let 4", "keep even(z)"), [*"12345678", "large", "ok", "9"])

    def test_undo_and_since(self):
        self.assertEqual(self.behind("since 0", "since 1", "since 2", "since 3", "since 4"), ["z", "s(z)", "s(s(z))", "no", "refused"])
        self.assertEqual(self.behind("undo", "since 2", "since 3", "undo", "undo", "undo", "rows", "rule odd(z)"),
                         ["ok", "no", "refused", "ok", "ok", "missing", "1", "1"])
        self.assertEqual(self.behind("rule odd(x)", "undo", "rule even(x)"), ["4", "ok", "4"])

    def test_since_too_large(self):
        book = read_book(examples.ladder([1, 2, 5, 11, 23, 24, 49, 99, 199, 200]))
        marks = " ".join(f"{word} {floor}" for word, floor in book[1])
        rules = ["rule ma(o)", *[f"rule {rule_text(rule)}" for rule in book[2]]]
        top = [mark for mark, _, _ in book[2][-2:]]
        body = ", ".join(f"{mark}({name})" for name in "xy" for mark in top)
        last = [f"rule ma(pair(x, y)) if {body}", f"since {len(rules)}", "since 0", f"since {len(rules) + 1}"]
        answers = run(f"begin z 0 s 1 pair 2 o 0 ; {marks}", *rules, *last)
        self.assertEqual(answers[-4:], [str(len(rules) + 1), "large", "z", "no"])

    def test_ask(self):
        self.assertEqual(self.behind("ask even(z)", "ask not even(z)", "ask all x (even(x) or odd(x))", "ask some x (even(x) and odd(x))"),
                         ["yes", "no", "yes", "no"])
        self.assertEqual(self.behind("ask even(x)", "ask even(", "ask ", "ask all x even(y)"), ["missing", "form", "form", "missing"])

    def test_find(self):
        self.assertEqual(self.behind("find odd(x)", "find odd(y) and even(x)", "find even(x) and odd(x)", "find even(z)", "find odd(z)"),
                         ["x = s(z)", "y = s(z), x = z", "no", "-", "no"])
        self.assertEqual(self.behind("find ", "find even", "find even(a) and even(b) and even(c) and even(d) and odd(e)"), ["form", "form", "refused"])
        self.assertEqual(self.behind("find even(a) and even(b) and even(c) and odd(s(d))"), ["a = z, b = z, c = z, d = z"])
        self.assertEqual(self.behind("find even(a) and even(b) and even(c) and some x even(d)"), ["refused"])

    def test_marks(self):
        self.assertEqual(self.behind("marks z", "marks s( z )", "marks  s(s(z))", "rule odd(x)", "marks z"), ["even", "odd", "even", "4", "even odd"])
        self.assertEqual(run("begin z 0 ; m 0", "marks z"), ["ok", "-"])
        self.assertEqual(self.behind("marks ", "marks s(", "marks x", "marks s(x)", "marks pair(z, z)", "marks Z"), ["form", "form", "refused", "refused", "form", "form"])
        self.assertEqual(self.behind("marks " + "s(" * 99 + "z" + ")" * 99, "marks " + "s(" * 100 + "z" + ")" * 100), ["odd", "form"])

    def test_rows(self):
        self.assertEqual(self.behind("rows", "row 0", "row 1", "row 2", "row 9999999"), ["2", "even : z", "odd : s(z)", "missing", "missing"])
        self.assertEqual(self.behind("drop 3", "row 2", "rule even(s(z))", "rule odd(z)", "row 0"), ["ok", "- : s(s(z))", "form", "4", "even odd : z"])

    def test_reader(self):
        self.assertEqual(self.behind("reader", "reader even", "reader odd even", "reader even even", "reader no", "reader z"),
                         ["1", "2", "2", "refused", "refused", "refused"])

    def test_count_tree_place(self):
        self.assertEqual(self.behind("count odd 2", "count odd 1", "count odd 0", "count odd 40", "count odd 41", "count no 41"), ["1", "0", "0", "1", "refused", "missing"])
        self.assertEqual(self.behind("tree odd 2 0", "tree odd 2 1", "tree odd 41 0", "tree no 41 0", "tree odd 1 0"), ["s(z)", "missing", "refused", "missing", "missing"])
        self.assertEqual(self.behind("place odd s(z)", "place even s(z)", "place no s(z)", "place odd  s( z ) ", "place no s(", "place no x", "place odd "),
                         ["0", "refused", "missing", "0", "form", "refused", "form"])
        deep = "s(" * 40 + "z" + ")" * 40
        self.assertEqual(self.behind(f"place even {deep}", f"place no {deep}"), ["refused", "missing"])

    def test_game(self):
        game = "game state q 0;state p 1;letter a;letter b;move q a to p;move p a to q a;move p b to q;goal q empty"
        self.assertEqual(run(game, "win q a b", "win q a a b", "win q b", "win p", "win q", "win", "win r a", "win q c", "win a", "win q q"),
                         ["ok", "0", "0", "1", "0", "0", "missing", "missing", "refused", "missing", "refused"])
        self.assertEqual(run(game, "game ", "game state q 0", "game x", "win q a b", f"{game};", "win q b"), ["ok", "form", "form", "form", "0", "ok", "1"])
        self.assertEqual(run(game.replace(";", " ; "), "win q a b", "game state q0;letter a", "win q a b", "win q a"), ["ok", "0", "ok", "refused", "1"])
        self.assertEqual(run(game, "win q" + " a" * 99, "win q" + " a" * 100, "win r" + " a" * 100), ["ok", "0", "refused", "missing"])

    def test_large_game(self):
        rows = [("a", "qrstup"), ("b", "qprstu"), ("c", "pprstu")]
        moves = [f"move {state} {letter} to {after}" for letter, row in rows for state, after in zip("pqrstu", row)]
        parts = [f"state {state} 0" for state in "pqrstu"] + [f"letter {letter}" for letter in "abc"] + moves
        game = "game " + ";".join(parts + [f"goal {state} empty" for state in "prt"])
        self.assertEqual(run(game, "win p", "win v", "win p d"), ["ok", "large", "missing", "refused"])

    def test_store_and_game_stand_beside_each_other(self):
        self.assertEqual(self.behind("game state q 0;letter a", "rows", "win q", "begin z 0 ; m 0", "win q", "rows"), ["ok", "2", "1", "ok", "1", "1"])

    def test_large_tables(self):
        book = read_book(examples.ROWS25)
        begin = "begin " + " ".join(f"{word} {arity}" for word, arity in book[0]) + " ; " + " ".join(f"{word} {floor}" for word, floor in book[1])
        answers = run(begin, *[f"rule {rule_text(rule)}" for rule in book[2]], "rows", "undo", "rows")
        self.assertIn("large", answers)
        self.assertEqual(answers[0], "ok")
        self.assertTrue(answers[-3].isdigit() and answers[-1].isdigit())
        given = [answer for answer in answers[1:-3] if answer != "large"]
        self.assertEqual(given, [str(number) for number in range(1, len(given) + 1)])

    def test_bad_lines(self):
        lines = ["rules", "begin", "undo now", "drop", "drop 01", "drop 12345678", "rows ", " rows", "count even", "tree even 1", "row -1", "reader 1", "win 0",
                 "place even", "marks", "x", "  ", "keep", "begin z 0 even 0"]
        self.assertEqual(run(*lines), ["bad"] * len(lines))
        self.assertEqual(self.behind(*lines), ["bad"] * len(lines))

    def test_errors_change_nothing(self):
        asked = ["rows", "row 0", "row 1", "count odd 4", "since 0"]
        wrong = ["rule odd(", "drop 7", "keep odd(z)", "let 1", "begin ;", "keep odd(x)", "game x", "rule no(z)", "marks x"]
        before = self.behind(*asked)
        behind = self.behind(*wrong, *asked, "rule odd(z)", "keep even(z)", "undo", "undo", "undo", "undo", "undo", "undo")
        self.assertEqual(behind[len(wrong):], [*before, "4", "1", "ok", "ok", "ok", "ok", "ok", "missing"])

    def test_two_scripts(self):
        first = run(*START, "rows")
        self.assertEqual(run("rows"), ["none"])
        self.assertEqual(run(*START, "rows"), first)
        run(*START).clear()
        self.assertEqual(run(*START, "rows"), first)

    def test_bounds(self):
        self.assertEqual((MAX_SCRIPT, MAX_LINES), (4000, 60))
        self.assertEqual(run(*["rows"] * 60), ["none"] * 60)
        self.assertEqual(run_script("\n" * 59), [""] * 60)
        self.assertEqual(run_script("x" * 4000), ["bad"])
        for script in ["\n".join(["rows"] * 61), "\n" * 60, "x" * 4001, "rows\n" * 59 + "rows\n", "x" * 4000 + "\n"]:
            with self.assertRaises(NotAllowed):
                run_script(script)

    def test_time(self):
        book = read_book(examples.LARGE_ASIDE)
        begin = "begin " + " ".join(f"{word} {arity}" for word, arity in book[0]) + " ; " + " ".join(f"{word} {floor}" for word, floor in book[1])
        rules = [f"rule {rule_text(rule)}" for rule in book[2]]
        asked = ["rows", "count ma 39", "reader ma mb", "find ma(x) and mb(pair(x, y))", "keep all x some y all u some v (ma(pair(x, y)) or not ma(u))"] * 7
        start = time.perf_counter()
        answers = run(begin, *rules[:24], *asked[: 59 - len(rules)])
        self.assertLess(time.perf_counter() - start, 30)
        self.assertEqual(answers[25], "24")
        self.assertEqual(answers[26], str(count_with(book, "ma", 39)))


if __name__ == "__main__":
    unittest.main()
