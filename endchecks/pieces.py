"""Pieces: texts that are cut where no bracket is open. Whether the right signs stood there is looked at elsewhere."""

from endchecks.errors import NoText

OPENING = "[{"
CLOSING = "]}"
# Without a limit texts could lead deeper than calls may go.
MOST_OPEN = 20


def cut(text, sign):
    """The list of the parts of a text between signs outside of all brackets."""
    parts = []
    begin = 0
    many = 0
    for at, letter in enumerate(text):
        if letter in OPENING:
            many = many + 1
        elif letter in CLOSING:
            many = many - 1
        elif letter == sign and many == 0:
            parts.append(text[begin:at])
            begin = at + 1
        if not 0 <= many <= MOST_OPEN:
            raise NoText()
    if many > 0:
        raise NoText()
    return [*parts, text[begin:]]


def words_in(text):
    """The list of what stands between the blanks of a text outside of all brackets."""
    return cut(text, " ")


def listed(text):
    """The list of the items of a text in which a semicolon and a blank stand between each two."""
    if text == "":
        return []
    first, *others = cut(text, ";")
    return [first, *[part[1:] for part in others]]


def inside(text):
    """What stands in the two brackets around a text."""
    return text[1:-1]


def lines_of(thing):
    """The list of the lines of a value; a line feed is behind each of them."""
    lines = text_of(thing).split("\n")
    if lines[-1] != "":
        raise NoText()
    return lines[:-1]


def text_of(thing):
    """A value that is a text."""
    if not isinstance(thing, str):
        raise NoText()
    return thing
