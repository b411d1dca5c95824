"""Words, signs, names, terms and trees."""

from pergola.errors import NotAllowed

MAX_WORD = 8
MAX_SIGNS = 4
MAX_ARITY = 2
MAX_TREE = 400
MAX_DEEP = 100

# What is told instead of the size and depth of a tree.
NO_TREE = (0, 0)

RESERVED = ("sign", "mark", "if", "not", "all", "some", "and", "or", "end")


def is_small_letter(char):
    """Return True if a single character is one from a to z."""
    return "a" <= char <= "z"


def is_word(text):
    """Return True if a text is a word."""
    if not 1 <= len(text) <= MAX_WORD or text in RESERVED:
        return False
    return all([is_small_letter(char) for char in text])


def check_signs(signs):
    """Raise NotAllowed if pairs of a text and an integer are not signs."""
    words = [word for word, _ in signs]
    arities = [arity for _, arity in signs]
    if not 1 <= len(signs) <= MAX_SIGNS:
        raise NotAllowed("there must be 1 to 4 signs")
    if not are_different_words(words):
        raise NotAllowed("signs must be different words")
    if min(arities) < 0 or max(arities) > MAX_ARITY:
        raise NotAllowed("an arity must be 0, 1 or 2")
    if 0 not in arities:
        raise NotAllowed("a sign must have the arity 0")


def are_different_words(texts):
    """Return True if the texts of a list are words, all different."""
    return len(set(texts)) == len(texts) and all([is_word(text) for text in texts])


def arity_of(signs, word):
    """Return the arity of a sign, and -1 for a text that is no sign."""
    return number_beside(signs, word)


def number_beside(pairs, word):
    """Return the number that stands beside a word in pairs, and -1 if it has none."""
    for other, number in pairs:
        if other == word:
            return number
    return -1


def is_name(signs, text):
    """Return True if a text is a name over the signs."""
    return is_word(text) and arity_of(signs, text) == -1


def is_term(signs, value):
    """Return True if a value is a term over the signs, of any size."""
    return all([is_node(signs, node) for node in nodes_of(value)])


def is_term_within(signs, value, most):
    """Return True if a value is a term of a size of at most `most`."""
    # One node more than allowed tells enough, however large the value is.
    nodes = nodes_of(value, most + 1)
    return len(nodes) <= most and all([is_node(signs, node) for node in nodes])


def is_tree(signs, value):
    """Return True if a value is a tree over the signs."""
    return measure(dict(signs), value) != NO_TREE


def measure(arities, value):
    """Return the size and the depth of a tree, and NO_TREE for a value that is none; `arities` is a dict."""
    size = 0
    depth = 0
    level = [value]
    while level:
        size += len(level)
        depth += 1
        if size > MAX_TREE or depth > MAX_DEEP:
            return NO_TREE
        below = []
        for node in level:
            if not is_sign_over(arities, node):
                return NO_TREE
            below.extend(node[1:])
        level = below
    return size, depth


def is_sign_over(arities, value):
    """Return True if a value is a tuple of a sign and as many values as its arity says."""
    if not isinstance(value, tuple) or not value or not isinstance(value[0], str):
        return False
    return arities.get(value[0], -1) == len(value) - 1


def is_node(signs, value):
    """Return True if a value is a term, provided that its parts are terms."""
    if not isinstance(value, tuple):
        return is_name(signs, value)
    if not value or not isinstance(value[0], str):
        return False
    return arity_of(signs, value[0]) == len(value) - 1


def nodes_of(value, most=None):
    """Return the list of all terms within a term, from left to right.

    Each one stands ahead of its parts. With `most`, the list ends when it
    has so many of them. Values that are no terms are taken apart likewise.
    """
    nodes = []
    waiting = [value]
    while waiting and (most is None or len(nodes) < most):
        node = waiting.pop()
        nodes.append(node)
        if isinstance(node, tuple):
            waiting.extend(node[:0:-1])
    return nodes


def fold(term, of_name, of_sign):
    """Work something out for a term from the leaves up.

    `of_name(name)` tells it for a name, `of_sign(sign, parts)` for a term
    with a sign, given the list of what came out for its parts.
    """
    # Terms may be nested deeper than calls should be, so nothing here recurs.
    done = []
    for node in reversed(nodes_of(term)):
        if isinstance(node, tuple):
            parts = [done.pop() for _ in node[1:]]
            done.append(of_sign(node[0], parts))
        else:
            done.append(of_name(node))
    return done[0]


def names_of(term):
    """Return the list of the names of a term as they first stand in it."""
    names = {}
    for node in nodes_of(term):
        if not isinstance(node, tuple):
            names[node] = True
    return list(names)


def size_of(term):
    """Return the number of the signs and names of a term."""
    return len(nodes_of(term))


def depth_of(term):
    """Return the depth of a term."""
    return fold(term, lambda name: 1, lambda sign, depths: 1 + max(depths, default=0))


def fill(term, filling):
    """Return the term with terms in the places of its names."""
    return fold(term, lambda name: filling.get(name, name), lambda sign, parts: (sign, *parts))
