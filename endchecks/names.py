"""Names, ids, tag names and modes: what strings are used for."""

LETTERS = "abcdefghijklmnopqrstuvwxyz"
LONGEST = 8
MODES = ("each", "now", "late")


def is_integer(thing):
    """Whether a value is an integer; True and False are none."""
    return isinstance(thing, int) and not isinstance(thing, bool)


def is_name(thing):
    """Whether a value is a string of one to eight lowercase letters."""
    if not isinstance(thing, str) or not 1 <= len(thing) <= LONGEST:
        return False
    return all([letter in LETTERS for letter in thing])


def are_names(thing):
    """Whether a value is a list of different names, perhaps an empty one."""
    if not isinstance(thing, list) or not all([is_name(part) for part in thing]):
        return False
    return len(set(thing)) == len(thing)


def is_id(thing):
    """Whether a value is the id of a row, of a new one too."""
    return is_name(thing) or is_new_id(thing)


def is_new_id(thing):
    """Whether a value is the id of a new row."""
    return isinstance(thing, str) and thing[:1] == "+" and is_name(thing[1:])


def is_tag_name(thing):
    """Whether a value is a tag name, of a new row too."""
    if not isinstance(thing, str) or thing[:1] != "+":
        return is_name(thing)
    parts = thing[1:].split(".")
    return len(parts) == 2 and is_name(parts[0]) and is_name(parts[1])


def is_mode(thing):
    """Whether a value is one of the three modes."""
    return thing in MODES


def less(one, other):
    """Whether a mode is less than another one."""
    return MODES.index(one) < MODES.index(other)


def new_id(handle):
    """The id of the new row of a handle."""
    return "+" + handle


def own_name(handle, field):
    """The tag name that the new row of a handle has of its own in a field."""
    return "+" + handle + "." + field
