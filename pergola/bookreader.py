"""Reading the texts of books and of rules."""

from pergola.books import MAX_RULES, check_marks, check_rule
from pergola.errors import BadForm, NotAllowed
from pergola.parts import Parts
from pergola.terms import MAX_ARITY, MAX_SIGNS, arity_of, is_word
from pergola.texts import take_term

MAX_BOOK_TEXT = 6000


def read_book(text):
    """Return the book that a text tells; raise BadForm with the first bad line."""
    if len(text) > MAX_BOOK_TEXT:
        raise BadForm(0)
    book = ([], [], [])
    lines = lines_of(text)
    for number, line in enumerate(lines, start=1):
        try:
            read_line(book, Parts(line))
        except (BadForm, NotAllowed):
            raise BadForm(number) from None
    signs, marks, rules = book
    if not marks:
        raise BadForm(len(lines) + 1)
    return tuple(signs), tuple(marks), tuple(rules)


def lines_of(text):
    """Return the list of the lines of a text; the last one may lack its newline."""
    lines = text.split("\n")
    if lines[-1] == "":
        lines.pop()
    return lines


def read_line(book, parts):
    """Add what a line tells to the lists of signs, marks and rules of a book."""
    signs, marks, rules = book
    start = parts.peek()
    if start == "sign":
        if marks:
            raise BadForm(1)
        signs.append(take_sign(signs, parts))
    elif start == "mark":
        if rules:
            raise BadForm(1)
        marks.append(take_mark(signs, marks, parts))
    elif start != "":
        if len(rules) == MAX_RULES:
            raise BadForm(1)
        rules.append(take_rule(signs, marks, parts))


def take_sign(signs, parts):
    """Return the sign of a line, which may follow on these signs."""
    word, arity = take_pair(parts)
    if len(signs) == MAX_SIGNS or not is_word(word) or arity_of(signs, word) >= 0:
        raise BadForm(1)
    return word, arity


def take_mark(signs, marks, parts):
    """Return the mark of a line, which may follow on these signs and marks."""
    if 0 not in [arity for _, arity in signs]:
        raise BadForm(1)
    pair = take_pair(parts)
    check_marks(signs, [*marks, pair])
    return pair


def take_pair(parts):
    """Take a line with a word and a digit behind its first word."""
    parts.take()
    word = parts.take()
    digit = parts.take()
    parts.expect_end()
    # Arities and floors have the same range.
    digits = [str(number) for number in range(MAX_ARITY + 1)]
    if digit not in digits:
        raise BadForm(1)
    return word, int(digit)


def read_rule(signs, marks, text):
    """Return the rule that a text tells; raise BadForm(1) if it tells none."""
    if len(text) > MAX_BOOK_TEXT:
        raise BadForm(1)
    try:
        return take_rule(signs, marks, Parts(text))
    except NotAllowed:
        raise BadForm(1) from None


def take_rule(signs, marks, parts):
    """Take a line with a rule of a book with these signs and marks."""
    mark, head = take_marked(signs, parts)
    body = []
    if parts.peek() != "":
        parts.expect("if")
        body.append(take_literal(signs, parts))
        while parts.peek() == ",":
            parts.take()
            body.append(take_literal(signs, parts))
    parts.expect_end()
    rule = (mark, head, tuple(body))
    check_rule(signs, marks, rule)
    return rule


def take_literal(signs, parts):
    """Take a literal off the parts of a line."""
    yes = parts.peek() != "not"
    if not yes:
        parts.take()
    mark, term = take_marked(signs, parts)
    return yes, mark, term


def take_marked(signs, parts):
    """Take a mark with a term in parentheses off the parts of a line."""
    mark = parts.take()
    parts.expect("(")
    term = take_term(signs, parts)
    parts.expect(")")
    return mark, term
