"""Orders: in which other orders the statements of a short script may stand."""

from endchecks.needed import needed_modes
from endchecks.partings import parting, side_of
from endchecks.rowkinds import row_kinds


def _all_orders(many):
    """The ascending list of the tuples of all indexes below a number, each once."""
    found = [()]
    for _ in range(many):
        found = [(*ahead, at) for ahead in found for at in range(many) if at not in ahead]
    return found


def orders(script, modes, *, most=100):
    """The ascending list of the orders in which a script is alike to what it is."""
    kinds = row_kinds(script.schema, script.looks(), most=most)
    told = side_of(script, modes, kinds, most)
    every = _all_orders(len(script))
    # All orders are looked at before any two are compared: so TooMany comes whichever of them are alike.
    sides = [side_of(script.order(list(places)), modes, kinds, most) for places in every]
    return [places for places, side in zip(every, sides) if parting(told, side) is None]


def calm(script, modes, *, most=100):
    """Of these orders the ascending list of those that need "late" for as few rules as any, and then "now"."""
    alike = orders(script, modes, most=most)
    needs = [_needs(script.order(list(places)), most) for places in alike]
    least = min(needs)
    return [places for places, need in zip(alike, needs) if need == least]


def _needs(script, most):
    """For how many rules a script needs "late", and for how many "now"."""
    least_modes = list(needed_modes(script, most=most).values())
    return (least_modes.count("late"), least_modes.count("now"))
