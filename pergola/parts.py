"""The parts of which the texts of terms consist."""

from pergola.errors import BadForm
from pergola.terms import is_small_letter


def split_parts(text):
    """Return the list of the parts of a text.

    A part is a longest row of small letters, or any other single character
    but a space; no grammar has those characters that are not allowed.
    """
    parts = []
    in_row = False
    for char in text:
        small = is_small_letter(char)
        if small and in_row:
            parts[-1] += char
        elif char != " ":
            parts.append(char)
        in_row = small
    return parts


class Parts:
    """The parts of a text, taken off one after another."""

    def __init__(self, text):
        self.parts = split_parts(text)
        self.at = 0

    def peek(self):
        """Return the next part, and the empty text behind the last one."""
        if self.at < len(self.parts):
            return self.parts[self.at]
        return ""

    def take(self):
        """Return the next part, and go on behind it."""
        part = self.peek()
        self.at += 1
        return part

    def expect(self, part):
        """Take the next part; raise BadForm if it is not this one."""
        if self.take() != part:
            raise BadForm(1)

    def expect_end(self):
        """Raise BadForm if there is a part that was not taken."""
        self.expect("")
