import unittest

from pergola.lines import read_command


class LinesTest(unittest.TestCase):
    def read(self, line, command):
        self.assertEqual(read_command(line), command, line)

    def bad(self, *lines):
        for line in lines:
            self.assertIsNone(read_command(line), line)

    def test_empty(self):
        self.read("", ())
        self.bad(" ", "  ", "x", "0", ";", "bad", "Begin ;", "RULE even(z)", "\n")

    def test_begin(self):
        self.read("begin z 0 s 1 ; even 0", ("begin", (("z", 0), ("s", 1)), (("even", 0),)))
        self.read("begin ;", ("begin", (), ()))
        self.read("begin z 0 ;", ("begin", (("z", 0),), ()))
        self.read("begin ; even 2", ("begin", (), (("even", 2),)))
        self.read("begin if 9999999 ; abcdefghijklmnop 10", ("begin", (("if", 9999999),), (("abcdefghijklmnop", 10),)))
        self.bad("begin", "begin ", "begin z 0", "begin z 0 even 0", "begin ; ;", "begin z 0 ; even 0 ;", "begin z ; even 0", "begin z 0 ; even",
                 "begin 0 z ; even 0", "begin z 0 s; even 0", "begin z 0; even 0", "begin z 0 ;even 0", "begin  z 0 ; even 0", "begin z 0  ; even 0",
                 "begin z 0 ; even 0 ", " begin z 0 ; even 0", "begin Z 0 ; even 0", "begin z 00 ; even 0", "begin z 01 ; even 0", "begin z -1 ; even 0",
                 "begin z 10000000 ; even 0", "begin z 0 0 ; even 0", "begin z z ; even 0", "begin ;;", "begin z1 0 ; even 0", "begin;", "begin z 0 : even 0")

    def test_texts(self):
        for word in ["rule", "keep", "ask", "find", "marks", "game"]:
            for text in ["", " ", "x", "  even ( x ) ", "state q 0;letter a", "0", "; ;", "ANY thing, at all!"]:
                self.read(f"{word} {text}", (word, text))
            self.bad(word, f" {word} x", f"{word}s x" if word != "marks" else "markss x", f"{word.upper()} x", f"{word}(x)")

    def test_place(self):
        self.read("place even s(z)", ("place", "even", "s(z)"))
        self.read("place even ", ("place", "even", ""))
        self.read("place even  s( z ) ", ("place", "even", " s( z ) "))
        self.read("place if x y", ("place", "if", "x y"))
        self.bad("place", "place ", "place even", "place  even z", "place Even z", "place 1 z", "place even1 z", "place  z")

    def test_numbers(self):
        for word in ["drop", "let", "since", "row"]:
            for number in [0, 1, 9, 10, 999999, 9999999]:
                self.read(f"{word} {number}", (word, number))
            self.bad(word, f"{word} ", f"{word} 00", f"{word} 01", f"{word} 10000000", f"{word} -1", f"{word} x", f"{word} 1 1", f"{word}  1", f"{word} 1 ",
                     f"{word} 1x", f" {word} 1", f"{word} +1", f"{word} 1.0", f"{word}1")

    def test_words_alone(self):
        for word in ["undo", "rows"]:
            self.read(word, (word,))
            self.bad(f"{word} ", f" {word}", f"{word} 1", f"{word} x", f"{word} now")

    def test_words(self):
        for word in ["reader", "win"]:
            self.read(word, (word,))
            self.read(f"{word} a", (word, "a"))
            self.read(f"{word} even odd even if", (word, "even", "odd", "even", "if"))
            self.bad(f"{word} ", f"{word}  a", f"{word} a ", f"{word} a  b", f"{word} 1", f"{word} a 1", f"{word} A", f"{word} a,b", f"{word} a;")

    def test_count_and_tree(self):
        self.read("count even 3", ("count", "even", 3))
        self.read("count abcdefghijkl 0", ("count", "abcdefghijkl", 0))
        self.bad("count 3 3", "count Even 3", "count e1 3", "count , 3", "tree 3 3 0", "tree eVen 3 0", "tree even even 0", "tree even 3 even")
        self.bad("count", "count even", "count 3", "count 3 even", "count even 03", "count even 3 3", "count even x", "count  even 3", "count even 12345678")
        self.read("tree even 3 0", ("tree", "even", 3, 0))
        self.read("tree even 9999999 1234567", ("tree", "even", 9999999, 1234567))
        self.bad("tree", "tree even", "tree even 3", "tree even 3 0 0", "tree 3 even 0", "tree even 3 x", "tree even 3 00", "tree even  3 0", "tree even 3 0 ")


if __name__ == "__main__":
    unittest.main()
