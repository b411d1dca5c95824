"""The texts of sayings."""

from pergola.errors import BadForm, NotAllowed
from pergola.parts import Parts
from pergola.sayings import check_saying
from pergola.terms import number_beside
from pergola.texts import take_term, term_text

MAX_SAYING_TEXT = 6000
MAX_SAYING = 60
MAX_NEST = 4
MAX_GROUPS = 40

# The kinds of sayings that need parentheses in some places.
ROWS = ("and", "or")
LOOSE = ("or",)


def saying_text(saying):
    """Return the plain text of a saying."""
    kind = saying[0]
    if kind == "at":
        return f"{saying[1]}({term_text(saying[2])})"
    if kind == "not":
        return f"not {text_within(saying[1], ROWS)}"
    if kind in ("all", "some"):
        return f"{kind} {saying[1]} {text_within(saying[2], ROWS)}"
    if kind == "and":
        return f"{text_within(saying[1], LOOSE)} and {text_within(saying[2], ROWS)}"
    return f"{saying_text(saying[1])} or {text_within(saying[2], LOOSE)}"


def text_within(saying, kinds):
    """Return the text of a part of a saying, with parentheses if it is of one of these kinds."""
    text = saying_text(saying)
    return f"({text})" if saying[0] in kinds else text


def read_saying(signs, marks, text):
    """Return the saying that a text tells; raise BadForm(1) if it tells none."""
    if len(text) > MAX_SAYING_TEXT:
        raise BadForm(1)
    reader = SayingReader(signs, marks, text)
    saying = reader.take_saying()
    reader.parts.expect_end()
    try:
        check_saying((signs, marks, ()), saying)
    except NotAllowed:
        raise BadForm(1) from None
    return saying


class SayingReader:
    """Takes sayings off the parts of a text, as the grammar tells."""

    def __init__(self, signs, marks, text):
        self.signs = signs
        self.marks = marks
        self.parts = Parts(text)
        self.nodes = 0
        self.groups = 0

    def take_saying(self):
        """Take parts of the highest kind, which "or" may stand between."""
        saying = self.take_both()
        while self.parts.peek() == "or":
            self.parts.take()
            saying = ("or", saying, self.take_both())
        return saying

    def take_both(self):
        """Take parts that "and" may stand between."""
        saying = self.take_single()
        while self.parts.peek() == "and":
            self.parts.take()
            saying = ("and", saying, self.take_single())
        return saying

    def take_single(self):
        """Take a mark with a term, "not" or a quantifier with what follows, or a group in parentheses."""
        word = self.parts.take()
        if word == "(":
            return self.take_group()
        # No saying with more nodes is read any further, so nothing nests deeper than that.
        self.nodes += 1
        if self.nodes > MAX_SAYING:
            raise BadForm(1)
        if word == "not":
            return ("not", self.take_single())
        if word in ("all", "some"):
            name = self.parts.take()
            return (word, name, self.take_single())
        if number_beside(self.marks, word) < 0:
            raise BadForm(1)
        self.parts.expect("(")
        term = take_term(self.signs, self.parts)
        self.parts.expect(")")
        return ("at", word, term)

    def take_group(self):
        """Take what stands in parentheses, behind the first of them."""
        self.groups += 1
        if self.groups > MAX_GROUPS:
            raise BadForm(1)
        saying = self.take_saying()
        self.parts.expect(")")
        self.groups -= 1
        return saying
