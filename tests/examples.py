"""Books that several tests look at, as texts."""

EVEN = """sign z 0
sign s 1
mark even 0
mark odd 0
mark no 1
even(z)
odd(s(x)) if even(x)
even(s(x)) if odd(x)
no(x) if not even(x)
"""

# Rules that look up, at greater trees.
UP = """sign z 0
sign s 1
sign pair 2
mark flat 0
mark twin 0
mark half 0
mark calm 0
flat(z)
twin(pair(x, y)) if flat(x), flat(y)
half(x) if twin(pair(x, x))
calm(x) if half(s(x))
flat(s(x)) if twin(pair(x, z))
"""

# Rules that look aside, at some further tree.
ASIDE = """sign z 0
sign o 0
sign s 1
mark base 0
mark goal 0
mark lone 0
mark met 0
base(o)
goal(s(x)) if base(x)
lone(z) if goal(u)
met(s(x)) if lone(x), goal(s(u)), base(u)
lone(x) if met(u), base(x)
"""

# Three floors, with marks of lower floors that must be lacking.
FLOORS = """sign z 0
sign s 1
sign pair 2
mark top 2
mark even 0
mark odd 0
mark mixed 1
mark plain 2
even(z)
odd(s(x)) if even(x)
even(s(x)) if odd(x)
even(pair(x, y)) if even(x), even(y)
mixed(pair(x, y)) if not even(x), even(y)
mixed(s(x)) if mixed(x), not odd(x)
plain(x) if not mixed(x), not even(x)
top(s(x)) if plain(x), not mixed(s(x))
top(x) if top(s(x)), not mixed(x)
"""


# Rules over which terms get more marks while they are looked at.
GROWING = (
    """sign w 1
sign t 1
sign z 0
sign s 1
mark ma 0
mark mb 0
mark mf 0
ma(x)
mb(z)
mf(x) if mb(w(u))
mb(x) if ma(u)
mf(t(x)) if ma(w(s(s(t(s(u))))))
""",
    """sign pair 2
sign z 0
sign o 0
mark ma 0
mark mc 0
mark md 0
mark me 0
mark mf 0
ma(pair(x, y)) if mf(pair(pair(u, o), y))
mc(pair(x, y)) if ma(x)
me(pair(x, y)) if ma(pair(o, pair(u, u))), mf(pair(x, pair(y, o)))
mf(x)
md(pair(x, y))
""",
    """sign pair 2
sign z 0
sign node 2
mark ma 0
mark mb 0
mark mc 0
mark md 0
mark me 0
mark mf 0
mb(x) if mc(node(x, pair(u, u)))
me(z)
mc(x)
md(pair(x, y)) if mf(node(node(y, x), u))
md(z)
mf(node(x, y)) if mb(x)
ma(pair(x, y))
mf(pair(x, y)) if me(y), mb(pair(z, node(y, z)))
md(node(x, y)) if ma(x)
ma(node(x, y)) if md(x)
""",
)


def counter(first, second, others):
    """Rules that count a sign up to two, by two marks."""
    a, b = first + "a", first + "b"
    lines = [f"{a}({second}(x))", f"{b}({second}(x)) if {a}(x)"]
    for other in others:
        lines += [f"{a}({other}(x)) if {a}(x)", f"{b}({other}(x)) if {b}(x)"]
    return "".join(f"{line}\n" for line in lines)


COUNTED = "sign z 0\nsign s 1\nsign t 1\nsign w 1\n" + "".join(
    f"mark {first}{last} 0\n" for first in "pqr" for last in "ab"
)
# Each of three signs is counted up to two, which makes 27 rows.
ROWS27 = COUNTED + counter("p", "s", "tw") + counter("q", "t", "sw") + counter("r", "w", "st")
# Three rows become one of them, then two rows one.
ROWS25 = ROWS27 + "pa(x) if qb(x), rb(x)\npb(x) if qb(x), rb(x)\n"
ROWS24 = ROWS25 + "rb(x) if pb(x), qb(x), ra(x)\n"


def shifts(many, marks):
    """A book whose rows tell the last signs, which are `s` or `t`, so many of them; further marks may come first."""
    lines = ["sign z 0", "sign s 1", "sign t 1"] + [f"mark m{letter} 0" for letter in "abcde"[:many]]
    lines += marks.split("\n")[:-1] + ["ma(s(x))"]
    for one, other in zip("abcd", "bcde"[: many - 1]):
        lines += [f"m{other}(s(x)) if m{one}(x)", f"m{other}(t(x)) if m{one}(x)"]
    return "".join(f"{line}\n" for line in lines)


def ladder(sizes):
    """A book in which just one tree of each size has the two marks of that size."""
    marks = [(a, b) for at, a in enumerate("abcdef") for b in "abcdef"[at + 1:]]
    lines = ["sign z 0", "sign s 1", "sign pair 2"] + [f"mark m{letter} 0" for letter in "abcdef"]
    for at, size in enumerate(sizes):
        for letter in marks[at]:
            if at == 0:
                lines.append(f"m{letter}(z)")
                continue
            a, b = marks[at - 1]
            if size == sizes[at - 1] + 1:
                lines.append(f"m{letter}(s(x)) if m{a}(x), m{b}(x)")
            else:
                lines.append(f"m{letter}(pair(x, y)) if m{a}(x), m{b}(x), m{a}(y), m{b}(y)")
    return "".join(f"{line}\n" for line in lines)


SIZE400 = ladder([1, 2, 5, 11, 23, 24, 49, 99, 199, 399, 400])
SIZE401 = ladder([1, 2, 5, 11, 23, 24, 49, 99, 199, 200, 401])

SIX = "".join(f"mark m{letter} 0\n" for letter in "abcdef")

# Books of 24 rules, 6 marks and 24 rows, about which questions take long.
LARGE_UP = (
    "sign z 0\nsign node 2\nsign pair 2\n"
    + SIX
    + """mb(z)
mf(x) if mf(z), mb(pair(node(z, x), x)), me(z)
ma(pair(x, y)) if me(x), mc(x), md(y)
md(z)
me(pair(x, y)) if mf(x), mf(z), mb(x)
me(z)
ma(node(x, y)) if mf(node(y, z))
mf(pair(x, y)) if me(y), mb(z)
ma(pair(x, y)) if ma(y)
mf(node(x, y)) if mc(y), mc(node(pair(x, x), x))
md(node(x, y)) if ma(z), mf(x)
mc(node(x, y))
mf(z)
mf(pair(x, y)) if ma(y)
mb(z)
me(pair(x, y)) if mc(x), mf(y)
mc(z)
ma(node(x, y)) if md(pair(u, node(y, x)))
md(pair(x, y)) if me(x), mc(y)
me(node(x, y)) if md(x), me(x)
mb(pair(x, y)) if me(pair(y, y)), md(y), md(x)
me(x) if mc(pair(x, pair(z, x)))
ma(z)
mb(node(x, y)) if mb(x)
"""
)
LARGE_ASIDE = (
    "sign z 0\nsign node 2\nsign pair 2\n"
    + SIX
    + """ma(z) if me(u)
mb(z) if me(z)
mc(pair(x, y)) if md(z), mb(x), md(y), md(x)
md(z)
me(z)
mf(node(x, y)) if md(u), me(u)
mc(node(x, y)) if mc(x), md(z)
mb(pair(x, y)) if ma(y), mc(x), ma(u), ma(x)
me(z) if mf(u), mf(z)
ma(pair(x, y)) if mc(y)
md(node(x, y)) if ma(u), md(y)
md(pair(x, y)) if mf(z)
md(z)
md(pair(x, y)) if mf(u), me(x), mf(u)
md(z) if mb(u), mc(u)
me(node(x, y)) if ma(u), mf(u), md(u), me(y)
me(z)
ma(node(x, y)) if me(u)
md(pair(x, y)) if ma(y)
md(node(x, y)) if mf(x)
me(z)
mc(z) if ma(u)
mb(node(x, y)) if me(x), ma(x)
me(node(x, y)) if ma(x), mf(u)
"""
)
# A book of 24 rules and 6 marks that has more than 24 rows.
LARGE_BEYOND = (
    "sign join 2\nsign node 2\nsign pair 2\nsign z 0\n"
    + SIX
    + """mf(node(x, y)) if md(pair(join(u, y), u))
mb(node(x, y)) if md(x)
mf(x) if mc(pair(u, join(x, z))), mc(u), ma(join(x, u)), me(pair(x, pair(u, z)))
md(node(x, y)) if mc(y)
me(join(x, y)) if me(node(z, y)), mb(join(x, x)), mf(pair(x, z))
mc(pair(x, y)) if me(node(x, u))
ma(z)
md(pair(x, y)) if mf(z), mb(join(x, x)), mc(u), me(u)
ma(join(x, y)) if mc(z), mc(x)
mb(join(x, y)) if me(y)
mf(node(x, y)) if ma(node(x, x)), ma(node(y, x)), ma(x), mb(y)
md(x) if mb(pair(z, join(x, u))), mb(join(x, u))
mc(join(x, y)) if mf(join(z, join(z, u)))
mf(node(x, y)) if mc(y), mc(y)
mc(join(x, y)) if mc(node(x, z))
me(x) if ma(node(node(x, u), z))
ma(node(x, y)) if mf(x), md(join(y, x))
md(join(x, y)) if md(x)
me(pair(x, y)) if mf(node(pair(y, x), y)), me(node(z, z)), mc(join(x, x)), me(y)
me(join(x, y)) if mc(pair(join(z, x), y)), md(join(x, x)), mf(y), ma(z)
mc(node(x, y)) if me(x), ma(u), me(z), mc(u)
me(z) if md(u)
me(node(x, y)) if mb(join(z, y)), mc(node(y, x)), ma(x)
mc(z)
"""
)
