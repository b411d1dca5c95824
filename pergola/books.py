"""Books of rules: signs, marks with floors, and rules."""

from pergola.errors import Missing, NotAllowed
from pergola.terms import (
    are_different_words,
    arity_of,
    check_signs,
    is_name,
    is_node,
    is_term_within,
    names_of,
    number_beside,
)

MAX_MARKS = 6
MAX_FLOOR = 2
MAX_RULES = 24
MAX_BODY = 4
MAX_TERM = 6


def check_book(book):
    """Raise NotAllowed if a tuple of signs, marks and rules is not a book."""
    signs, marks, rules = book
    check_signs(signs)
    check_marks(signs, marks)
    if len(rules) > MAX_RULES:
        raise NotAllowed("there must be at most 24 rules")
    for rule in rules:
        check_rule(signs, marks, rule)


def check_marks(signs, marks):
    """Raise NotAllowed if pairs of a text and an integer are not marks."""
    words = [word for word, _ in marks]
    floors = [floor for _, floor in marks]
    if not 1 <= len(marks) <= MAX_MARKS:
        raise NotAllowed("there must be 1 to 6 marks")
    if not are_different_words(words):
        raise NotAllowed("marks must be different words")
    if max([arity_of(signs, word) for word in words]) >= 0:
        raise NotAllowed("a mark must not be a sign")
    if min(floors) < 0 or max(floors) > MAX_FLOOR:
        raise NotAllowed("a floor must be 0, 1 or 2")


def check_rule(signs, marks, rule):
    """Raise NotAllowed if a triple is not a rule of a book with these signs and marks."""
    mark, head, body = rule
    floor = number_beside(marks, mark)
    if floor < 0:
        raise NotAllowed("a rule must be for a mark of the book")
    if not is_head(signs, head):
        raise NotAllowed("a head must be a name, or a sign with different names")
    if len(body) > MAX_BODY:
        raise NotAllowed("a body must have at most 4 literals")
    for literal in body:
        check_literal(signs, marks, literal, floor)
    if len(further_names(rule)) > 1:
        raise NotAllowed("a rule must have at most one further name")


def check_literal(signs, marks, literal, floor):
    """Raise NotAllowed if a triple is no literal of a rule for a mark of this floor."""
    yes, mark, term = literal
    highest = floor if yes else floor - 1
    if not 0 <= number_beside(marks, mark) <= highest:
        raise NotAllowed("a literal must have a mark of a floor that is low enough")
    if not is_term_within(signs, term, MAX_TERM):
        raise NotAllowed("a literal must have a term of a size of at most 6")


def is_head(signs, value):
    """Return True if a value may be the head of a rule."""
    if not isinstance(value, tuple):
        return is_name(signs, value)
    names = [part for part in value[1:] if isinstance(part, str) and is_name(signs, part)]
    return is_node(signs, value) and len(set(names)) == len(value) - 1


def further_names(rule):
    """Return the list of the names of the body that are not in the head."""
    _, head, body = rule
    known = names_of(head)
    further = {}
    for _, _, term in body:
        for name in names_of(term):
            if name not in known:
                further[name] = True
    return list(further)


def floor_of(book, mark):
    """Return the floor of a mark of a book."""
    floor = number_beside(book[1], mark)
    if floor < 0:
        raise Missing("the book has no such mark")
    return floor


def rules_of_floor(book, floor):
    """Return the list of the indexes of the rules for marks of a floor."""
    _, marks, rules = book
    return [index for index, rule in enumerate(rules) if number_beside(marks, rule[0]) == floor]
