"""The lines of scripts."""

from pergola.terms import is_small_letter

MAX_DIGITS = 7

# What follows the first word of a line: W is a word, N a number.
FORMS = {
    "drop": "N",
    "let": "N",
    "undo": "",
    "since": "N",
    "rows": "",
    "row": "N",
    "count": "WN",
    "tree": "WNN",
}
# Lines whose first word is followed by a text, or by words.
WITH_TEXT = ("rule", "keep", "ask", "find", "marks", "game")
WITH_WORDS = ("reader", "win")


def read_command(line):
    """Return the tuple of the words of a line, the empty tuple for the empty line, and None for a bad one."""
    word, space, rest = line.partition(" ")
    if line == "":
        return ()
    if word in WITH_TEXT:
        return (word, rest) if space else None
    if word == "place":
        return read_place(rest)
    words = rest.split(" ") if space else []
    if word == "begin":
        return read_begin(words)
    if word in WITH_WORDS:
        return (word, *words) if all([is_letters(text) for text in words]) else None
    if word not in FORMS:
        return None
    return read_form(word, FORMS[word], words)


def is_letters(text):
    """Return True if a text is one or more small letters."""
    return text != "" and all([is_small_letter(char) for char in text])


def is_number(text):
    """Return True if a text is 1 to 7 digits without a leading zero."""
    if not 1 <= len(text) <= MAX_DIGITS or not text.isdigit():
        return False
    return text == "0" or not text.startswith("0")


def read_place(rest):
    """Return the command of a line with a mark and the text of a tree."""
    mark, space, text = rest.partition(" ")
    if not is_letters(mark) or not space:
        return None
    return "place", mark, text


def read_begin(words):
    """Return the command of a line with the signs and marks of a store."""
    if ";" not in words:
        return None
    at = words.index(";")
    signs = read_pairs(words[:at])
    marks = read_pairs(words[at + 1:])
    if signs is None or marks is None:
        return None
    return "begin", signs, marks


def read_pairs(words):
    """Return the tuple of the pairs of a word and a number that words tell, and None if they do not."""
    if len(words) != len(words) // 2 * 2:
        return None
    pairs = []
    for word, number in zip(words[::2], words[1::2]):
        if not is_letters(word) or not is_number(number):
            return None
        pairs.append((word, int(number)))
    return tuple(pairs)


def read_form(word, form, words):
    """Return the command of a line with words and numbers, and None if they are not of this form."""
    if len(words) != len(form):
        return None
    command = [word]
    for kind, text in zip(form, words):
        if kind == "W" and is_letters(text):
            command.append(text)
        elif kind == "N" and is_number(text):
            command.append(int(text))
        else:
            return None
    return tuple(command)
