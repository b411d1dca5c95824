"""Groves: trees whose subtrees have rows, and can be replaced and exchanged."""

from pergola.books import floor_of
from pergola.errors import Missing, NotAllowed
from pergola.order import place_of_sign
from pergola.sayings import check_free, check_names
from pergola.table import entry_at, table_of
from pergola.terms import is_tree
from pergola.truths import Truths


class Grove:
    """A tree over the signs of a book, with the number of the row of each of its subtrees by its path."""

    def __init__(self, book, tree):
        self.rulebook = book
        self.truths = Truths(book, table_of(book))
        self.whole = tree
        self.rows = self.rows_from(tree)
        self.before = []
        self.fresh = sorted(self.rows)

    def rows_from(self, tree):
        """Return a dict with the row of each subtree of a tree, by its path."""
        places = []
        waiting = [(tree, ())]
        while waiting:
            node, path = waiting.pop()
            places.append((node, path))
            waiting.extend(list(zip(node[1:], paths_below(node, path))))
        rows = {}
        # Each subtree stands behind the one that it is a part of.
        for node, path in reversed(places):
            rows[path] = self.row_over(node[0], [rows[part] for part in paths_below(node, path)])
        return rows

    def row_over(self, sign, rows):
        """Return the row of a sign over parts with these rows."""
        return entry_at(self.truths.full_table[1][place_of_sign(self.rulebook[0], sign)], rows)

    def tree(self):
        """Return the tree as it is now."""
        return self.whole

    def subtree(self, path):
        """Return the subtree at a path."""
        self.check_path(path)
        node = self.whole
        for at in path:
            node = node[1 + at]
        return node

    def check_path(self, path):
        """Raise Missing if a path leads nowhere."""
        if path not in self.rows:
            raise Missing("the path leads nowhere")

    def marks_at(self, path):
        """Return the row of the subtree at a path, a tuple of marks."""
        self.check_path(path)
        return self.truths.full_table[0][self.rows[path]]

    def paths_with(self, mark):
        """Return the ascending list of the paths of all subtrees that have a mark."""
        floor_of(self.rulebook, mark)
        return self.paths_of([mark in row for row in self.truths.full_table[0]])

    def paths_of(self, good):
        """Return the ascending list of the paths of all subtrees whose rows are good."""
        return sorted([path for path, row in self.rows.items() if good[row]])

    def good_rows(self, saying, name):
        """Return a list that tells of each row whether a saying holds if the name stands for a tree with it."""
        check_names(self.rulebook, saying, [name])
        check_free(saying, [name])
        cell = self.truths.cells(saying, [name], [])[0]
        return [cell >> row & 1 == 1 for row in range(len(self.truths.full_table[0]))]

    def paths_where(self, saying, name):
        """Return the ascending list of the paths of all subtrees for which a saying holds, as its name."""
        return self.paths_of(self.good_rows(saying, name))

    def least_for(self, path, saying, name):
        """Return the least tree at a path with which a saying would hold for the whole tree, or None."""
        self.check_path(path)
        good = self.good_rows(saying, name)
        for row, tree in zip(self.whole_rows(path), self.truths.full_table[2]):
            if good[row]:
                return tree
        return None

    def whole_rows(self, path):
        """Return the list of the rows that the whole tree would have with trees of all rows at a path."""
        found = list(range(len(self.truths.full_table[0])))
        for many in range(len(path) - 1, -1, -1):
            above = path[:many]
            sign = self.subtree(above)[0]
            beside = [self.rows[part] for part in paths_below(self.subtree(above), above)]
            at = path[many]
            found = [self.row_over(sign, [*beside[:at], row, *beside[at + 1:]]) for row in found]
        return found

    def put(self, path, tree):
        """Replace the subtree at a path by a tree."""
        self.check_path(path)
        self.change([(path, tree)])
        self.note({place: True for place in self.rows if place[:len(path)] == path}, [path])

    def swap(self, first, second):
        """Let the subtrees at two paths exchange their places."""
        one = self.subtree(first)
        other = self.subtree(second)
        many = min(len(first), len(second))
        if first[:many] == second[:many]:
            raise NotAllowed("one of the paths begins with the other")
        self.change([(first, other), (second, one)])
        self.note({}, [first, second])

    def change(self, places):
        """Put trees at some paths; raise NotAllowed if what comes of it is not a tree."""
        whole = self.whole
        for path, tree in places:
            whole = replaced(whole, path, tree)
        if not is_tree(self.rulebook[0], whole):
            raise NotAllowed("what comes of it is not a tree")
        self.before.append((self.whole, self.rows))
        self.whole = whole
        self.rows = self.rows_from(whole)

    def note(self, worked, places):
        """Note the paths that were worked out: some, and those above places with a part that has another row."""
        _, before = self.before[-1]
        for place in places:
            for many in range(len(place)):
                above = place[:many]
                parts = [(*above, at) for at in (0, 1) if (*above, at) in self.rows]
                if [self.rows[part] for part in parts] != [before[part] for part in parts]:
                    worked[above] = True
        self.fresh = sorted(worked)

    def worked(self):
        """Return the ascending list of the paths that were worked out by the last deed, or in the beginning."""
        return list(self.fresh)

    def undo(self):
        """Take the last deed back."""
        if not self.before:
            raise Missing("there is no deed to take back")
        self.whole, self.rows = self.before.pop()
        self.fresh = []


def paths_below(node, path):
    """Return the list of the paths of the parts of a tree at a path."""
    return [(*path, at) for at in range(len(node) - 1)]


def replaced(tree, path, other):
    """Return a tree with another one in the place of the subtree at a path."""
    above = []
    for at in path:
        above.append(tree)
        tree = tree[1 + at]
    for node, at in zip(above[::-1], path[::-1]):
        other = (*node[:1 + at], other, *node[2 + at:])
    return other
