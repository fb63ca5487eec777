"""Masks: integers that tell by their bits which things of a list are meant."""


def bits(mask):
    """The ascending list of the indexes that a mask has."""
    found = []
    rest = mask
    while rest > 0:
        low = rest & -rest
        found.append(low.bit_length() - 1)
        rest = rest ^ low
    return found


def least(mask):
    """The least index that a mask has; it has one."""
    return (mask & -mask).bit_length() - 1


def mask_of(indexes):
    """The mask that has the indexes of a list."""
    mask = 0
    for at in indexes:
        mask = mask | 1 << at
    return mask
