import itertools
import random
import time
import unittest

import told
import turns
from test_stands import counter_of, same
from test_turners import ALL, DOUBLER, INS, MIXED, OUTS, PLAIN, TWO, Z, chain, row_of_signs
from pergola.errors import BadPaper, NotAllowed, TooLarge
from pergola.onebehind import judge_one, one_of, one_of_all, paper_of_one
from pergola.order import trees_of
from pergola.stands import stands_of
from pergola.turners import check_turner, turned

LEFTS = (OUTS, INS, (((),), (0, ((0,),))), ((Z, ((("s", (0, 0)),),)),))


def over_one_sign(*sides):
    """A turner over `z` and `s`, with one look, and with these sides of `s`."""
    return (INS, ALL, PLAIN, tuple((Z, (side,)) for side in sides))


def made_told(second, state, piece, stands):
    """What a state of the second turner makes of a piece, with pairs in the calls, as [9.6] tells it."""
    if turns.is_call(piece):
        return ((piece[0], state), piece[1])

    def look(inner):
        if turns.is_call(inner):
            return stands[inner[1]][1][inner[0]]
        return told.moved(second[2][1][turns.place(second[0], inner[0])], [look(part) for part in inner[1:]])

    side = told.moved(second[3][state][turns.place(second[0], piece[0])], [look(part) for part in piece[1:]])

    def within(inner):
        if turns.is_call(inner):
            return made_told(second, inner[0], piece[1 + inner[1]], stands)
        parts = [within(part) for part in inner[1:]]
        return () if () in parts else (inner[0], *parts)

    return within(side) if side else ()


def side_of_both(first, second, pair, sign, stands):
    side = told.moved(first[3][pair[0]][turns.place(first[0], sign)], [look for look, _ in stands])
    if not side or any(stands[part][1][state] == -1 for state, part in turns.calls_told(side)):
        return ()
    return made_told(second, pair[1], side, stands)


def pair_calls(piece):
    if not piece:
        return []
    if isinstance(piece[0], tuple):
        return [piece[0]]
    return [pair for part in piece[1:] for pair in pair_calls(part)]


def numbered(piece, pairs):
    if not piece:
        return piece
    if isinstance(piece[0], tuple):
        return (pairs.index(piece[0]), piece[1])
    return (piece[0], *[numbered(part, pairs) for part in piece[1:]])


def one_told(first, second):
    """The one turner, its pairs and its stands, whatever its sizes; None for more than 24 stands."""
    ins = first[0]
    reader = second[2]
    try:
        stands = [stand for stand, _ in stands_of(first, reader)]
    except TooLarge:
        return None
    pairs = [(0, 0)]
    entries = []
    for pair in pairs:
        lists = []
        for sign, arity in ins:
            sides = {}
            for numbers in itertools.product(range(len(stands)), repeat=arity):
                side = side_of_both(first, second, pair, sign, [stands[number] for number in numbers])
                pairs += [other for other in dict.fromkeys(pair_calls(side)) if other not in pairs]
                sides[numbers] = side
            lists.append((arity, sides))
        entries.append(lists)

    def entry(sides, arity, front):
        if len(front) == arity:
            return numbered(sides[front], pairs)
        return tuple(entry(sides, arity, (*front, number)) for number in range(len(stands)))

    def move(sign, arity, front):
        if len(front) == arity:
            return stands.index(turns.stand_after(first, reader[1], sign, [stands[number] for number in front]))
        return tuple(move(sign, arity, (*front, number)) for number in range(len(stands)))

    moves = tuple(move(sign, arity, ()) for sign, arity in ins)
    sides = tuple(tuple(entry(sides, arity, ()) for arity, sides in lists) for lists in entries)
    return (ins, second[1], (tuple(() for _ in stands), moves), sides), pairs, stands


class OneTest(unittest.TestCase):
    def test_examples(self):
        one = one_of(DOUBLER, LEFTS)
        self.assertEqual(one, ((("z", 0), ("s", 1)), (("z", 0), ("s", 1)), (((),), (0, (0,))), ((("z",), (("s", (0, 0)),)),)))
        self.assertEqual(paper_of_one(DOUBLER, LEFTS), (((0, 0),), ((0, (0,)),)))
        self.assertIsNone(judge_one(DOUBLER, LEFTS, one, paper_of_one(DOUBLER, LEFTS)))

    def test_numbers_of_states(self):
        """Pairs are numbered as they are met: state by state, sign by sign, stand by stand, and from left to right."""
        first = (OUTS, OUTS, (((),), (0, ((0,),))), ((Z, ((("pair", (1, 1), (0, 0)),),)), (Z, ((("pair", (0, 0), (1, 0)),),))))
        second = (OUTS, OUTS, (((),), (0, ((0,),))), ((Z, ((("pair", (1, 1), (0, 0)),),)), (Z, (((0, 1),),))))
        pairs, stands = paper_of_one(first, second)
        # Of pair(1 of the second, 0 of the first part) the second turner makes pair((0, 1) of the first, (1, 0) of the second part).
        self.assertEqual(pairs, ((0, 0), (0, 1), (1, 0), (1, 1)))
        self.assertEqual(stands, ((0, (0, 0)),))
        one = one_of(first, second)
        self.assertEqual(one[3][0], (Z, ((("pair", (1, 0), (2, 1)),),)))
        self.assertEqual(one[3][1], (Z, (((0, 0),),)))
        turned_round = (OUTS, OUTS, first[2], (first[3][0], (Z, ((("pair", (1, 0), (1, 0)),),))))
        self.assertEqual(paper_of_one(turned_round, second)[0], ((0, 0), (0, 1), (1, 0), (1, 1)))

    def test_order_of_stands(self):
        looks = (((), (), ()), (0, (2, 0, 1)))
        first = (INS, INS, looks, ((Z, (("s", (0, 0)),) * 3),))
        second = (INS, INS, TWO[:1] + (TWO[1][:2],), ((Z, (("s", (0, 0)), ("s", (0, 0)))),))
        stands = paper_of_one(first, second)[1]
        self.assertEqual(stands, ((0, (0,)), (2, (1,)), (1, (0,)), (0, (1,)), (2, (0,)), (1, (1,))))
        self.assertEqual(stands, tuple(stand for stand, _ in stands_of(first, second[2])))
        self.assertEqual(one_of(first, second)[2], (((),) * 6, (0, (1, 2, 3, 4, 5, 0))))

    def test_empty_sides(self):
        """A side is empty if the first one is, if a call of it is not turned, or if something is not made of it."""
        stop = (INS, INS, TWO[:1] + (TWO[1][:2],), ((Z, (("s", (0, 0)), ())),))
        self.assertEqual(one_of(stop, same(INS))[3], ((Z, (("s", (0, 0)), (), (), ())),))
        self.assertEqual(one_of(same(INS), stop)[3], ((Z, (("s", (0, 0)), ())),))
        # The call of the state 1 is not turned at all.
        hole = over_one_sign(("pair", (0, 0), (1, 0)), ("s", (0, 0)))
        hole = (*hole[:3], (hole[3][0], ((), ((),))))
        keep = (ALL, INS, (((),), (0, (0,), ((0,),))), ((Z, (("s", (0, 0)),), (((0, 0),),)),))
        self.assertEqual(one_of(hole, keep)[3], ((Z, ((), ())),))
        # A piece of which nothing is made does not matter where it is not called.
        lone = over_one_sign(("pair", (0, 0), ("s", Z)))
        drop = (ALL, INS, (((),), (0, (0,), ((0,),))), ((Z, ((),), (((0, 0),),)),))
        self.assertEqual(one_of(lone, drop)[3], ((Z, ((0, 0),)),))
        both = (ALL, ALL, (((),), (0, (0,), ((0,),))), ((Z, ((),), ((("pair", (0, 0), (0, 1)),),)),))
        self.assertEqual(one_of(lone, both)[3], ((Z, ((),)),))

    def test_sizes_24_and_25(self):
        first = over_one_sign(chain(8, (0, 0)))
        for many in [2, 3]:
            # Eight signs become `many` each, over the call.
            second = (ALL, ALL, (((),), (0, (0,), ((0,),))), ((Z, (chain(many, (0, 0)),), ((Z,),)),))
            if many == 2:
                self.assertEqual(one_of(first, second)[3], ((Z, (chain(16, (0, 0)),)),))
            else:
                with self.assertRaises(TooLarge):
                    one_of(first, second)
                with self.assertRaises(TooLarge):
                    paper_of_one(first, second)
        second = (ALL, ALL, (((),), (0, (0,), ((0,),))), ((("s", Z), (chain(2, (0, 0)),), ((Z,),)),))
        self.assertEqual(one_of(over_one_sign(chain(11, Z)), second)[3], ((("s", Z), (chain(22, ("s", Z)),)),))
        with self.assertRaises(TooLarge):
            one_of(over_one_sign(chain(12, Z)), second)
        # Very great sides, of which it is told at once that they are; and none if something in them is not made.
        doubles = (ALL, ALL, (((),), (0, (0,), ((0,),))), ((Z, (("pair", (0, 0), (0, 0)),), ((Z,),)),))
        start = time.perf_counter()
        with self.assertRaises(TooLarge):
            one_of(over_one_sign(chain(23, (0, 0))), doubles)
        none = (*doubles[:3], (((), *doubles[3][0][1:]),))
        self.assertEqual(one_of(over_one_sign(chain(23, Z)), none)[3], (((), ((),)),))
        self.assertLess(time.perf_counter() - start, 1)

    def test_8_and_9_states(self):
        """States of either turner that go round make up a circle of pairs."""

        def circle(signs, many):
            return (signs, signs, PLAIN, tuple((Z, (("s", ((at + 1) % many, 0)),)) for at in range(many)))

        for one, other, states in [(1, 8, 8), (8, 1, 8), (2, 4, 4), (8, 8, 8), (1, 1, 1)]:
            self.assertEqual(len(one_of(circle(INS, one), circle(INS, other))[3]), states)
        for one, other in [(3, 4), (8, 3), (3, 8), (5, 2), (7, 8)]:
            with self.assertRaises(TooLarge):
                one_of(circle(INS, one), circle(INS, other))
        # A tail of one state, and a circle of seven or eight.
        for many in [7, 8]:
            tail = (INS, INS, PLAIN, ((Z, (("s", (1, 0)),)), (Z, (("s", (1, 0)),))))
            if many == 7:
                self.assertEqual(len(one_of(tail, circle(INS, many))[3]), 8)
            else:
                with self.assertRaises(TooLarge):
                    one_of(tail, circle(INS, many))

    def test_errors_in_order(self):
        with self.assertRaises(NotAllowed):
            one_of(DOUBLER, DOUBLER)
        with self.assertRaises(NotAllowed):
            one_of(DOUBLER, (OUTS[::-1], *LEFTS[1:]))
        great = (INS, INS, counter_of(24), ((Z, (("s", (0, 0)),) * 24),))
        with self.assertRaises(NotAllowed):
            one_of(great, LEFTS)
        with self.assertRaises(NotAllowed):
            paper_of_one(great, LEFTS)
        with self.assertRaises(TooLarge):
            one_of(great, same(INS, 5))
        with self.assertRaises(TooLarge):
            paper_of_one(great, same(INS, 5))
        self.assertEqual(len(one_of(great, same(INS, 12))[2][0]), 24)

    def test_one_of_all(self):
        self.assertEqual(one_of_all((DOUBLER,)), DOUBLER)
        self.assertEqual(one_of_all((DOUBLER, LEFTS)), one_of(DOUBLER, LEFTS))
        six = (DOUBLER, LEFTS, DOUBLER, LEFTS, DOUBLER, LEFTS)
        self.assertEqual(one_of_all(six), one_of(DOUBLER, LEFTS))
        grow = (INS, INS, PLAIN, ((("s", Z), (("s", (0, 0)),)),))
        one = one_of_all((grow,) * 6)
        self.assertEqual(one[3], ((row_of_signs(6), (("s", (0, 0)),)),))
        for bad in [(DOUBLER, LEFTS, LEFTS), (DOUBLER, DOUBLER, LEFTS), (grow, grow, LEFTS)]:
            with self.assertRaises(NotAllowed):
                one_of_all(bad)
        twice = (INS, INS, PLAIN, ((Z, (chain(2, (0, 0)),)),))
        self.assertEqual(one_of_all((twice,) * 4)[3], ((Z, (chain(16, (0, 0)),)),))
        with self.assertRaises(TooLarge):
            one_of_all((twice,) * 5)
        # The first error that comes is raised.
        with self.assertRaises(TooLarge):
            one_of_all((*(twice,) * 5, LEFTS))
        with self.assertRaises(NotAllowed):
            one_of_all((twice, LEFTS, twice, twice, twice, twice))

    def test_chance(self):
        """The one turner is the one that is told, and turns trees into what both turn them into."""
        chooser = random.Random(102)
        tried = 0
        while tried < 120:
            ins, between, outs = [chooser.choice(turns.SHAPES) for _ in range(3)]
            empty = chooser.choice([0, 0.1])
            first = turns.some_turner(chooser, ins, between, chooser.randint(1, 2), chooser.randint(1, 2), 3, empty)
            second = turns.some_turner(chooser, between, outs, chooser.randint(1, 2), chooser.randint(1, 3), 3, empty)
            expected = one_told(first, second)
            small = expected and len(expected[1]) <= 8
            small = small and all(turns_size(side) <= 24 for sides in expected[0][3] for entry in sides for side in sides_in(entry))
            if not small:
                with self.assertRaises(TooLarge):
                    one_of(first, second)
                continue
            tried += 1
            one = one_of(first, second)
            self.assertEqual(one, expected[0])
            self.assertEqual(paper_of_one(first, second), (tuple(expected[1]), tuple(expected[2])))
            self.assertIsNone(check_turner(one))
            self.assertIsNone(judge_one(first, second, one, paper_of_one(first, second)))
            for size in range(1, 6):
                for tree in trees_of(ins, size)[:10]:
                    became = turns.turned_told(first, 0, tree)
                    became = None if became is None else turns.turned_told(second, 0, became)
                    self.assertEqual(turned(one, tree), became)

    def test_greatest(self):
        chooser = random.Random(103)
        signs = (("z", 0), ("pair", 2), ("node", 2), ("join", 2))
        first = (signs, signs, counter_reader(signs, 24), tuple(self.wide_sides(chooser, 24, 4, 2) for _ in range(2)))
        second = (signs, signs, (((),), (0, ((0,),), ((0,),), ((0,),))), tuple(self.wide_sides(chooser, 1, 4, 3) for _ in range(4)))
        start = time.perf_counter()
        one = one_of(first, second)
        self.assertEqual(len(one[2][0]), 24)
        self.assertIsNone(judge_one(first, second, one, paper_of_one(first, second)))
        self.assertLess(time.perf_counter() - start, 8)

    def wide_sides(self, chooser, looks, size, states):
        """Entries with no empty sides, whose calls are of the first states."""
        def side():
            return turns.some_piece(chooser, (("z", 0), ("pair", 2), ("join", 2)), states if looks == 1 else 2, 2, size)
        return (Z, *[tuple(tuple(side() for _ in range(looks)) for _ in range(looks)) for _ in range(3)])


def counter_reader(signs, many):
    """A reader of signs `z` and three of the arity 2 with so many states, all of which trees have."""
    return (tuple(() for _ in range(many)), (0, *[tuple(tuple((one + 1) % many for _ in range(many)) for one in range(many)) for _ in range(3)]))


def sides_in(entry):
    """The sides of an entry: those of its tuples that are no tuples of sides."""
    if entry == () or isinstance(entry[0], (str, int)):
        return [entry]
    return [side for inner in entry for side in sides_in(inner)]


def turns_size(piece):
    if piece == () or isinstance(piece[0], int):
        return len(piece) // 2
    return 1 + sum(turns_size(part) for part in piece[1:])


class JudgeTest(unittest.TestCase):
    # It keeps a row of signs, or makes a pair of it, by turns.
    FIRST = (INS, ALL, PLAIN, ((Z, (("pair", (1, 0), (0, 0)),)), (("s", Z), (("s", (0, 0)),))))
    SECOND = (
        ALL,
        INS,
        (((), ("odd",)), (0, (1, 0), ((0, 1), (1, 0)))),
        ((Z, (("s", (1, 0)), ("s", (0, 0))), (((0, 0), (0, 1)), ((1, 1), (0, 0)))), (Z, ((0, 0), ("s", (1, 0))), (((1, 0), (0, 1)), ((1, 1), Z)))),
    )

    def setUp(self):
        self.one = one_of(self.FIRST, self.SECOND)
        self.paper = paper_of_one(self.FIRST, self.SECOND)

    def judged(self, third, paper):
        return judge_one(self.FIRST, self.SECOND, third, paper)

    def bad(self, third, paper):
        with self.assertRaises(BadPaper):
            self.judged(third, paper)

    def with_states(self, order):
        """The one turner with its states in another order, or some of them twice; the calls are of the first ones."""
        ins, outs, reader, sides = self.one
        place = {state: order.index(state) for state in order}

        def renamed(piece):
            if piece == ():
                return piece
            if isinstance(piece[0], int):
                return (place[piece[0]], piece[1])
            return (piece[0], *[renamed(part) for part in piece[1:]])

        made = tuple((renamed(sides[state][0]), tuple(renamed(side) for side in sides[state][1])) for state in order)
        return (ins, outs, reader, made), (tuple(self.paper[0][state] for state in order), self.paper[1])

    def test_it_is_something_to_judge(self):
        self.assertGreater(len(self.paper[0]), 2)
        self.assertGreater(len(self.paper[1]), 2)
        self.assertIsNone(self.judged(self.one, self.paper))

    def test_other_third_turners(self):
        states = list(range(len(self.paper[0])))
        for order in [[0, *states[:0:-1]], [*states, states[-1]], [*states, 0, 1], [0, 0, *states[1:]], [0, 1, 1, *states[2:]]]:
            third, paper = self.with_states(order)
            self.assertIsNone(check_turner(third))
            self.assertIsNone(self.judged(third, paper))
        # The call of a state may be one of the other state for the same pair, in any side.
        third, paper = self.with_states([*states, *states])
        ins, outs, reader, sides = third
        many = len(states)

        def moved(piece, by):
            if piece == ():
                return piece
            if isinstance(piece[0], int):
                return (piece[0] + by, piece[1])
            return (piece[0], *[moved(part, by) for part in piece[1:]])

        for by in [0, many]:
            mixed = tuple((start, tuple(moved(side, by if at % 2 else 0) for at, side in enumerate(entry))) for start, entry in sides)
            self.assertIsNone(self.judged((ins, outs, reader, mixed), paper))

    def test_readers_with_more_states(self):
        """A state of the reader may stand there twice; the moves may lead to either one."""
        ins, outs, (labels, moves), sides = self.one
        many = len(labels)
        for last in range(many):
            entry = (*moves[1], moves[1][last])
            for lead in range(many):
                line = tuple(many if to == last and at == lead else to for at, to in enumerate(entry))
                third = (ins, outs, ((("new",),) * (many + 1), (moves[0], line)), tuple((start, (*entry, entry[last])) for start, entry in sides))
                paper = (self.paper[0], (*self.paper[1], self.paper[1][last]))
                self.assertIsNone(self.judged(third, paper))
                wrong = (self.paper[0], (*self.paper[1], self.paper[1][(last + 1) % many]))
                self.bad(third, wrong)
                self.bad(third, self.paper)

    def test_stands_of_no_tree(self):
        """A stand need not be one of a tree, but what follows from it must be told as well."""
        looks = (((),), (0, (0,)))
        stop = (INS, INS, looks, ((Z, (("s", (0, 0)),)),))
        more = (INS, INS, (((), ()), (0, (0, 1))), ((Z, (("s", (0, 0)), ())),))
        self.assertIsNone(judge_one(stop, same(INS), more, (((0, 0),), ((0, (0,)), (0, (-1,))))))
        with self.assertRaises(BadPaper):
            judge_one(stop, same(INS), more, (((0, 0),), ((0, (0,)), (0, (0,)))))
        with self.assertRaises(BadPaper):
            judge_one(stop, same(INS), (*more[:3], ((Z, (("s", (0, 0)), ("s", (0, 0)))),)), (((0, 0),), ((0, (0,)), (0, (-1,)))))

    def test_changed_papers(self):
        pairs, stands = self.paper
        self.bad(self.one, (pairs[:-1], stands))
        self.bad(self.one, ((*pairs, pairs[-1]), stands))
        self.bad(self.one, (pairs, stands[:-1]))
        self.bad(self.one, (pairs, (*stands, stands[-1])))
        self.bad(self.one, (pairs[::-1], stands))
        self.bad(self.one, (pairs, stands[::-1]))
        self.bad(self.one, ((), ()))
        for at, (state, other) in enumerate(pairs):
            for pair in [(state + 1, other), (state - 1, other), (state, other + 1), (state, other - 1), (2, 0), (0, 2), (-1, -1)]:
                self.bad(self.one, ((*pairs[:at], pair, *pairs[at + 1:]), stands))
        for at, (look, states) in enumerate(stands):
            changed = [(look + 1, states), (look - 1, states), (look, states[:-1]), (look, (*states, 0)), (look, ()), (look, (9,) * len(states))]
            for place in range(len(states)):
                for by in [-3, -2, -1, 1, 2]:
                    changed.append((look, (*states[:place], states[place] + by, *states[place + 1:])))
            for stand in changed:
                self.bad(self.one, (pairs, (*stands[:at], stand, *stands[at + 1:])))

    def test_changed_turners(self):
        ins, outs, (labels, moves), sides = self.one
        for at in range(len(moves[1])):
            for to in range(len(labels)):
                if to != moves[1][at]:
                    self.bad((ins, outs, (labels, (moves[0], (*moves[1][:at], to, *moves[1][at + 1:]))), sides), self.paper)
        for to in range(1, len(labels)):
            self.bad((ins, outs, (labels, (to, moves[1])), sides), self.paper)
        self.assertIsNone(self.judged((ins, outs, ((("new",),) * len(labels), moves), sides), self.paper))
        for state, (start, entry) in enumerate(sides):
            changed = [((), entry), (("s", start), entry), (("s", ("s", Z)), entry)]
            for at, side in enumerate(entry):
                for other in [(), Z, (0, 0), ("s", side) if side else Z, ("s", (len(sides) - 1, 0)), side[1] if side[:1] == ("s",) else ("s", Z)]:
                    if other != side:
                        changed.append((start, (*entry[:at], other, *entry[at + 1:])))
            for entries in changed:
                self.bad((ins, outs, (labels, moves), (*sides[:state], entries, *sides[state + 1:])), self.paper)

    def test_signs(self):
        for first, second, third in [
            (DOUBLER, DOUBLER, DOUBLER),
            (DOUBLER, LEFTS, DOUBLER),
            (DOUBLER, LEFTS, LEFTS),
            (DOUBLER, LEFTS, (INS[::-1], *same(INS)[1:])),
            (DOUBLER, LEFTS, (INS, INS[::-1], *same(INS)[2:])),
            (LEFTS, MIXED, MIXED),
        ]:
            with self.assertRaises(NotAllowed):
                judge_one(first, second, third, ((), ()))

    def test_many_stands_are_no_matter(self):
        """The judge has no bound for stands or sizes of trees."""
        great = (INS, INS, counter_of(24), ((Z, (("s", (0, 0)),) * 24),))
        with self.assertRaises(TooLarge):
            one_of(great, same(INS, 5))
        with self.assertRaises(BadPaper):
            judge_one(great, same(INS, 5), same(INS), (((0, 0),), ((0, (0,)),)))

    def test_nothing_is_changed(self):
        before = repr((self.FIRST, self.SECOND, self.one, self.paper))
        self.judged(self.one, self.paper)
        self.assertEqual(one_of(self.FIRST, self.SECOND), self.one)
        self.assertEqual(repr((self.FIRST, self.SECOND, self.one, self.paper)), before)


if __name__ == "__main__":
    unittest.main()
