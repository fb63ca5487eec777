"""Copies, so that nothing that is passed in or told is shared with a caller."""


def copy_of(thing):
    """A copy of lists, tuples and dicts with names as keys, new at each depth; the keys ascend."""
    if isinstance(thing, list):
        return [copy_of(part) for part in thing]
    if isinstance(thing, tuple):
        return tuple([copy_of(part) for part in thing])
    if isinstance(thing, dict):
        return {key: copy_of(thing[key]) for key in sorted(thing)}
    return thing
