"""The search for sortings of samples, number by number."""

from heapq import heappop, heappush

from pergola.errors import TooLarge

# What is told in the place of a part if two labels do not fit.
CONFLICT = -1
# So many trees whose labels did not fit are tried first where this can be done.
MOST_WATCHED = 60


class SampleParts:
    """The parts of a sample, in order: each with the number of its sign and the places of its own parts.

    The trees of the sample are told by their numbers in a pool that has no
    other trees. `given` has for each part the label that the sample has for
    it, or None; `tree_places` has the places of the trees, in their order.
    """

    def __init__(self, signs, pool, numbers, labels):
        order = pool.in_order()
        places = [0] * len(order)
        for place, number in enumerate(order):
            places[number] = place
        rows = [pool.makings[number] for number in order]
        self.signs = signs
        self.makings = [(sign, tuple([places[part] for part in parts])) for sign, parts in rows]
        self.tree_places = [places[number] for number in numbers]
        self.given = [None] * len(order)
        for place, label in zip(self.tree_places, labels):
            self.given[place] = label


def many_rows(states, arity):
    """Return the number of the rows of so many of these states."""
    rows = 1
    for _ in range(arity):
        rows *= states
    return rows


class Search:
    """A search for the first sorting with at most `most` states, in at most `limit` tries.

    A *code* is an integer for a sign and the numbers of its parts. The first
    part with a code makes a *choice*: its number is that of the code. A part
    hangs on the choices of its own code and on those of its parts. When the
    number of a choice changes, only those parts are gone through again that
    hang on it or on later ones; the others stay *told*, also behind them.
    """

    def __init__(self, parts, labels, most, limit):
        many = len(parts.makings)
        arities = [arity for _, arity in parts.signs]
        self.many_parts = many
        self.most = most
        self.limit = limit
        self.rows = code_rows(parts, labels, most)
        # The place behind all parts stands for a part that a sign does not have.
        self.part_numbers = [0] * (many + 1)
        self.levels = [0] * (many + 1)
        codes = sum([many_rows(most, arity) for arity in arities])
        self.entries = [-1] * codes
        self.depths = [0] * codes
        self.used = 0
        self.many_tries = 0
        self.chosen = []
        # For so many choices, the places of the parts that hang on the last one of them.
        self.held = [[]]
        # The places that are still to be gone through, the next one at the end.
        self.waiting = list(range(many - 1, -1, -1))
        self.full = [sum([many_rows(used, arity) for arity in arities]) for used in range(most + 1)]
        self.bearers = Bearers(self.part_numbers, most)
        self.watched = []
        self.inner_places = {}

    def find(self):
        """Return the tuple of the numbers of the first sorting, and None if there is none."""
        place = self.go_on()
        while place != self.many_parts:
            if place != CONFLICT:
                self.choose(place)
            elif not self.choose_next():
                return None
            place = CONFLICT if self.is_broken() else self.go_on()
        return tuple(self.part_numbers[:-1])

    def go_on(self):
        """Go through the places that wait, in order, as long as their numbers follow.

        Returns the place of a part whose number does not follow, CONFLICT if
        two labels do not fit, and the place behind all parts at the end.
        """
        waiting = self.waiting
        numbers = self.part_numbers
        levels = self.levels
        pair = self.bearers.first_broken(self.many_parts)
        while waiting and waiting[-1] < pair[0]:
            place = waiting.pop()
            start, left, right, label = self.rows[place]
            code = start + numbers[left] * self.most + numbers[right]
            number = self.entries[code]
            if number < 0:
                waiting.append(place)
                return place
            numbers[place] = number
            level = self.depths[code]
            if levels[left] > level:
                level = levels[left]
            if levels[right] > level:
                level = levels[right]
            levels[place] = level
            self.held[level].append(place)
            if label is not None:
                pair = min(pair, self.bearers.bear(place, number, label, self.many_parts))
        if pair[0] == self.many_parts:
            return self.many_parts
        self.watch(pair)
        return CONFLICT

    def choose(self, place):
        """Choose the number 0 for the part at a place, whose code is new."""
        start, left, right, _ = self.rows[place]
        code = start + self.part_numbers[left] * self.most + self.part_numbers[right]
        self.chosen.append((place, code, self.used))
        self.held.append([])
        self.depths[code] = len(self.chosen)
        self.set_entry(code, 0)

    def choose_next(self):
        """Choose the next number for the last choice for which there is one; return False if there is none."""
        again = []
        while self.chosen:
            _, code, used = self.chosen[-1]
            number = self.entries[code] + 1
            self.used = used
            again.extend(self.held[-1])
            if number <= used and number < self.most:
                self.held[-1] = []
                self.set_entry(code, number)
                self.wait_again(again)
                return True
            self.entries[code] = -1
            self.chosen.pop()
            self.held.pop()
        return False

    def set_entry(self, code, number):
        """Try a number for a code."""
        if self.many_tries == self.limit:
            raise TooLarge(f"nothing was found with {self.limit} tries")
        self.many_tries += 1
        self.entries[code] = number
        self.used = max(self.used, number + 1)

    def wait_again(self, places):
        """Let places wait that were told."""
        self.bearers.forget(places)
        highest = max(places, default=-1)
        low = 0
        high = len(self.waiting)
        # Most of the places that wait may be behind all of these, and stay as they are.
        while low < high:
            middle = (low + high) // 2
            if self.waiting[middle] > highest:
                low = middle + 1
            else:
                high = middle
        self.waiting[low:] = sorted([*self.waiting[low:], *places], reverse=True)

    def watch(self, pair):
        """Put the places of two trees of the sample ahead of all that are watched."""
        others = [place for place in self.watched if place not in pair]
        self.watched = [*pair, *others[:MOST_WATCHED]]

    def is_broken(self):
        """Return True if it can be told at once that labels do not fit.

        It can be told only if there are no new codes. Then all numbers
        follow, and trees whose labels did not fit before may be tried first.
        """
        if len(self.chosen) < self.full[self.used]:
            return False
        pair = self.bearers.first_broken(self.many_parts)
        if pair[0] == self.many_parts:
            pair = self.broken_pair(self.chosen[-1][0])
        if pair[0] == self.many_parts:
            return False
        self.watch(pair)
        return True

    def broken_pair(self, start):
        """Return the places of two trees that are watched, with the same number and other labels.

        Numbers are told already for the parts ahead of the place `start`. If
        there are no such trees, the places are those behind all parts.
        """
        told = {}
        owners = {}
        for place in self.watched:
            number = self.number_told(place, start, told)
            if number not in owners:
                owners[number] = min(self.bearers.firsts(number), default=place)
            if self.rows[owners[number]][3] != self.rows[place][3]:
                return place, owners[number]
        return self.many_parts, self.many_parts

    def number_told(self, place, start, told):
        """Return the number of the part at a place; `told` has those that were told behind `start`, and gets more."""
        numbers = self.part_numbers
        for inner in self.places_within(place):
            if inner >= start and inner not in told:
                first, left, right, _ = self.rows[inner]
                code = first + told.get(left, numbers[left]) * self.most + told.get(right, numbers[right])
                told[inner] = self.entries[code]
        return told.get(place, numbers[place])

    def places_within(self, place):
        """Return the ascending list of the places of all parts of the part at a place, and of itself."""
        if place not in self.inner_places:
            found = {}
            waiting = [place]
            while waiting:
                here = waiting.pop()
                if here < self.many_parts and here not in found:
                    found[here] = True
                    _, left, right, _ = self.rows[here]
                    waiting.append(left)
                    waiting.append(right)
            self.inner_places[place] = sorted(found)
        return self.inner_places[place]


class Bearers:
    """The trees of a sample that are told, by their numbers and labels.

    For each number and label there is a heap of places, in which there may
    be places that are told no longer, or that have another number by now.
    Two trees with the same number and other labels are *broken*; a pair of
    their places has the later one first.
    """

    def __init__(self, numbers, most):
        self.part_numbers = numbers
        self.most = most
        self.is_told = [False] * len(numbers)
        self.heaps = [{} for _ in range(most)]
        self.in_heap = {}

    def bear(self, place, number, label, behind):
        """Note that the tree at a place has a number; return the first broken pair of the number, or one behind all."""
        self.is_told[place] = True
        key = place * self.most + number
        if key not in self.in_heap:
            self.in_heap[key] = True
            places = self.heaps[number].setdefault(label, [])
            heappush(places, place)
        return self.broken_with(number, behind) if len(self.heaps[number]) > 1 else (behind, behind)

    def forget(self, places):
        """Note that some places are told no longer."""
        for place in places:
            self.is_told[place] = False

    def first_broken(self, behind):
        """Return the broken pair whose later place is the first one, or a pair of a place behind all."""
        numbers = [number for number, heaps in enumerate(self.heaps) if len(heaps) > 1]
        return min([self.broken_with(number, behind) for number in numbers], default=(behind, behind))

    def broken_with(self, number, behind):
        """Return the first broken pair of a number, or a pair of a place behind all."""
        firsts = sorted(self.firsts(number))
        return (firsts[1], firsts[0]) if len(firsts) > 1 else (behind, behind)

    def firsts(self, number):
        """Return the list that has for each label of the trees with a number the place of the first such tree."""
        heaps = self.heaps[number]
        found = []
        for label in list(heaps):
            places = heaps[label]
            while places and not self.has_number(places[0], number):
                place = heappop(places)
                del self.in_heap[place * self.most + number]
            if places:
                found.append(places[0])
            else:
                del heaps[label]
        return found

    def has_number(self, place, number):
        """Return True if the tree at a place is told, and has a number."""
        return self.is_told[place] and self.part_numbers[place] == number


def code_rows(parts, labels, most):
    """Return a list that has for each part the first code of its sign, the places of its parts, and its label."""
    starts = []
    codes = 0
    for _, arity in parts.signs:
        starts.append(codes)
        codes += many_rows(most, arity)
    nothing = len(parts.makings)
    rows = []
    for (sign, inner), label in zip(parts.makings, labels):
        places = [nothing, nothing, *inner]
        rows.append((starts[sign], places[-2], places[-1], label))
    return rows
