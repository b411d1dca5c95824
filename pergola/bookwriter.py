"""The plain texts of books and of rules."""

from pergola.texts import term_text


def book_text(book):
    """Return the plain text of a book."""
    signs, marks, rules = book
    lines = [f"sign {sign} {arity}" for sign, arity in signs]
    lines.extend([f"mark {mark} {floor}" for mark, floor in marks])
    lines.extend([rule_text(rule) for rule in rules])
    return "".join([f"{line}\n" for line in lines])


def rule_text(rule):
    """Return the plain text of a rule, without a newline."""
    mark, head, body = rule
    start = mark_text(mark, head)
    if not body:
        return start
    literals = ", ".join([literal_text(literal) for literal in body])
    return f"{start} if {literals}"


def literal_text(literal):
    """Return the plain text of a literal."""
    yes, mark, term = literal
    text = mark_text(mark, term)
    return text if yes else f"not {text}"


def mark_text(mark, term):
    """Return the text of a mark with a head or a term in parentheses."""
    return f"{mark}({term_text(term)})"
