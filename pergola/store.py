"""Stores: rules and kept sayings with numbers, changed step by step, and their images."""

from pergola.alike import part_readers
from pergola.books import MAX_RULES, check_book, check_rule
from pergola.bookwriter import rule_text
from pergola.errors import BadForm, Broken, Missing, NotAllowed, TooLarge
from pergola.images import Image
from pergola.sayings import check_saying, free_names
from pergola.sayingtexts import saying_text
from pergola.table import row_of, table_of
from pergola.truths import Truths

MAX_KEPT = 8
MAX_NUMBER = 999999
MAX_IMAGE = 60000


class Point:
    """What a store has at some time: pairs of numbers and rules or sayings, the next numbers, and its table."""

    def __init__(self, rule_pairs, kept_pairs, next_rule, next_kept, full_table):
        self.rule_pairs = rule_pairs
        self.kept_pairs = kept_pairs
        self.next_rule = next_rule
        self.next_kept = next_kept
        self.full_table = full_table


class Store:
    """Rules and sayings that are kept; there is a point for each change in force, behind the first one."""

    def __init__(self, signs, marks):
        check_book((signs, marks, ()))
        self.signs = signs
        self.marks = marks
        self.points = [Point([], [], 1, 1, table_of((signs, marks, ())))]

    def book(self):
        """Return the book of the store."""
        return self.book_with(self.points[-1].rule_pairs)

    def book_with(self, rules):
        """Return the book that the store has with these rules with numbers."""
        return self.signs, self.marks, tuple([rule for _, rule in rules])

    def table_now(self):
        """Return the table of the store's book."""
        return self.points[-1].full_table

    def rules(self):
        """Return the list of the pairs of a number and a rule."""
        return list(self.points[-1].rule_pairs)

    def kept(self):
        """Return the list of the pairs of a number and a saying that is kept."""
        return list(self.points[-1].kept_pairs)

    def row(self, tree):
        """Return the row of a tree, a tuple of marks."""
        rows, moves, _ = self.table_now()
        return rows[row_of(self.signs, moves, tree, {})]

    def change(self, numbers, rules):
        """Drop the rules with some numbers, and add others; return the list of their numbers."""
        now = self.points[-1]
        known = [number for number, _ in now.rule_pairs]
        if len(set(numbers)) < len(numbers) or not all([number in known for number in numbers]):
            raise Missing("there is no rule with one of the numbers, or it stands twice")
        for rule in rules:
            check_rule(self.signs, self.marks, rule)
        left = [pair for pair in now.rule_pairs if pair[0] not in numbers]
        following = now.next_rule + len(rules)
        if len(left) + len(rules) > MAX_RULES or following - 1 > MAX_NUMBER:
            raise TooLarge("there are too many rules, or their numbers are too great")
        added = list(range(now.next_rule, following))
        left.extend(list(zip(added, rules)))
        table = table_of(self.book_with(left))
        self.check_kept(left, table, now.kept_pairs)
        self.points.append(Point(left, now.kept_pairs, following, now.next_kept, table))
        return added

    def check_kept(self, rules, table, kept):
        """Raise Broken with the first of these sayings that does not hold with such rules."""
        truths = Truths(self.book_with(rules), table)
        for number, saying in kept:
            if not truths.holds(saying, [], []):
                raise Broken(number)

    def add(self, rule):
        """Add a rule, and return its number."""
        return self.change([], [rule])[0]

    def drop(self, number):
        """Drop the rule with a number."""
        self.change([number], [])

    def keep(self, saying):
        """Keep a saying, and return its number."""
        now = self.points[-1]
        check_saying(self.book(), saying)
        if free_names(saying):
            raise NotAllowed("a saying that is kept must not have free names")
        number = now.next_kept
        if len(now.kept_pairs) >= MAX_KEPT or number > MAX_NUMBER:
            raise TooLarge("there are too many sayings, or their numbers are too great")
        self.check_kept(now.rule_pairs, now.full_table, [(number, saying)])
        kept = [*now.kept_pairs, (number, saying)]
        self.points.append(Point(now.rule_pairs, kept, now.next_rule, number + 1, now.full_table))
        return number

    def let(self, number):
        """Keep the saying with a number no longer."""
        now = self.points[-1]
        left = [pair for pair in now.kept_pairs if pair[0] != number]
        if len(left) == len(now.kept_pairs):
            raise Missing("no saying with this number is kept")
        self.points.append(Point(now.rule_pairs, left, now.next_rule, now.next_kept, now.full_table))

    def changes(self):
        """Return the number of the changes in force."""
        return len(self.points) - 1

    def undo(self):
        """Take back the last change in force."""
        if len(self.points) == 1:
            raise Missing("there is no change to take back")
        self.points.pop()

    def since(self, point):
        """Return the first tree that has another row now than behind so many changes, or None."""
        if not 0 <= point <= self.changes():
            raise NotAllowed("there are not so many changes in force")
        # Tables are like readers whose labels are rows.
        return part_readers(self.signs, self.points[point].full_table[:2], self.table_now()[:2])

    def image(self):
        """Return the image of the store."""
        now = self.points[-1]
        lines = [f"store {now.next_rule} {now.next_kept}"]
        lines.extend([f"sign {sign} {arity}" for sign, arity in self.signs])
        lines.extend([f"mark {mark} {floor}" for mark, floor in self.marks])
        lines.extend([f"rule {number} {rule_text(rule)}" for number, rule in now.rule_pairs])
        lines.extend([f"keep {number} {saying_text(saying)}" for number, saying in now.kept_pairs])
        return "".join([f"{line}\n" for line in lines])


def load_store(text):
    """Return the store with an image; raise BadForm with the first bad line."""
    if len(text) > MAX_IMAGE:
        raise BadForm(0)
    lines = text.split("\n")
    # Behind the last newline there must be nothing, or there is one more line, which is bad.
    rest = lines.pop()
    image = Image(MAX_NUMBER, MAX_KEPT)
    for number, line in enumerate(lines, start=1):
        try:
            image.read(line)
        except (BadForm, NotAllowed):
            raise BadForm(number) from None
    if rest != "" or not image.marks:
        raise BadForm(len(lines) + 1)
    store = Store(tuple(image.signs), tuple(image.marks))
    table = table_of(store.book_with(image.rule_pairs))
    store.check_kept(image.rule_pairs, table, image.kept_pairs)
    store.points = [Point(image.rule_pairs, image.kept_pairs, image.next_rule, image.next_kept, table)]
    return store
