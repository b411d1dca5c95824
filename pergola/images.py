"""Reading the images of stores, line by line."""

from pergola.bookreader import read_rule, take_mark, take_sign
from pergola.books import MAX_RULES
from pergola.bookwriter import rule_text
from pergola.errors import BadForm
from pergola.parts import Parts
from pergola.sayings import free_names
from pergola.sayingtexts import read_saying, saying_text


def plain_number(text, most):
    """Return the number from 1 to `most` that a text tells in plain digits; raise BadForm if it tells none."""
    if not text.isdigit() or text.startswith("0") or len(text) > len(str(most)) or int(text) > most:
        raise BadForm(1)
    return int(text)


class Image:
    """What the lines of an image tell so far: the next numbers, signs, marks, and rules and sayings with numbers."""

    def __init__(self, most_number, most_kept):
        self.most_number = most_number
        self.most_kept = most_kept
        self.next_rule = 0
        self.next_kept = 0
        self.signs = []
        self.marks = []
        self.rule_pairs = []
        self.kept_pairs = []

    def read(self, line):
        """Add what a line tells; raise BadForm or NotAllowed if it cannot stand here."""
        kind, _, rest = line.partition(" ")
        # The first line, and no other one, has the numbers that come next.
        if (kind == "store") != (self.next_rule == 0):
            raise BadForm(1)
        if kind == "store":
            self.read_store(rest)
        elif kind == "sign" and not self.marks:
            self.signs.append(self.plain_pair(kind, take_sign(self.signs, Parts(line)), line))
        elif kind == "mark" and not self.rule_pairs and not self.kept_pairs:
            self.marks.append(self.plain_pair(kind, take_mark(self.signs, self.marks, Parts(line)), line))
        elif kind == "rule" and not self.kept_pairs and len(self.rule_pairs) < MAX_RULES:
            self.read_rule(rest)
        elif kind == "keep" and len(self.kept_pairs) < self.most_kept:
            self.read_kept(rest)
        else:
            raise BadForm(1)

    def read_store(self, text):
        """Read the numbers that the next rule and the next saying will get."""
        first, _, second = text.partition(" ")
        following = plain_number(second, self.most_number + 1)
        self.next_rule = plain_number(first, self.most_number + 1)
        self.next_kept = following

    def plain_pair(self, kind, pair, line):
        """Return a sign or mark; raise BadForm if its line is not the plain one."""
        word, number = pair
        if line != f"{kind} {word} {number}":
            raise BadForm(1)
        return pair

    def read_rule(self, text):
        """Read a rule with its number."""
        first, _, second = text.partition(" ")
        number = self.number_behind(first, self.rule_pairs, self.next_rule)
        rule = read_rule(self.signs, self.marks, second)
        if rule_text(rule) != second:
            raise BadForm(1)
        self.rule_pairs.append((number, rule))

    def read_kept(self, text):
        """Read a saying that is kept, with its number."""
        first, _, second = text.partition(" ")
        number = self.number_behind(first, self.kept_pairs, self.next_kept)
        saying = read_saying(self.signs, self.marks, second)
        if saying_text(saying) != second or free_names(saying):
            raise BadForm(1)
        self.kept_pairs.append((number, saying))

    def number_behind(self, text, pairs, following):
        """Return a number that is greater than those of some pairs, and less than the one that comes next."""
        number = plain_number(text, following - 1)
        if pairs and number <= pairs[-1][0]:
            raise BadForm(1)
        return number
