"""The texts of terms."""

from pergola.errors import BadForm
from pergola.parts import Parts
from pergola.terms import MAX_DEEP, MAX_TREE, arity_of, depth_of, fold, is_word, size_of

MAX_TERM_TEXT = 4000


def term_text(term):
    """Return the plain text of a term."""
    return fold(term, lambda name: name, sign_text)


def sign_text(sign, texts):
    """Return the plain text of a sign with the texts of its parts."""
    if not texts:
        return sign
    inner = ", ".join(texts)
    return f"{sign}({inner})"


def read_term(signs, text):
    """Return the term that a text tells; raise BadForm(1) if it tells none."""
    if len(text) > MAX_TERM_TEXT:
        raise BadForm(1)
    parts = Parts(text)
    term = take_term(signs, parts)
    parts.expect_end()
    if size_of(term) > MAX_TREE or depth_of(term) > MAX_DEEP:
        raise BadForm(1)
    return term


def take_term(signs, parts):
    """Take a term, of any size and depth, off the parts of a text."""
    # The terms that are begun stand in a list, for they may nest very deep.
    begun = []
    term = None
    while term is None:
        word = parts.take()
        if arity_of(signs, word) > 0:
            parts.expect("(")
            begun.append([word])
        else:
            term = end_terms(signs, parts, begun, leaf_of(signs, word))
    return term


def leaf_of(signs, word):
    """Return the term that a word without parentheses tells."""
    if arity_of(signs, word) == 0:
        return (word,)
    if not is_word(word):
        raise BadForm(1)
    return word


def end_terms(signs, parts, begun, term):
    """Add a term to the last begun one, and end all those that it completes.

    Returns the whole term, or None if one of the begun ones needs more parts.
    """
    while begun:
        begun[-1].append(term)
        if len(begun[-1]) <= arity_of(signs, begun[-1][0]):
            parts.expect(",")
            return None
        parts.expect(")")
        term = tuple(begun.pop())
    return term
