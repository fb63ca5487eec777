"""Hubs: tables with three rows of each kind that stands."""

from endchecks.buildings import ROWS_OF_A_KIND, Building, words_of
from endchecks.errors import Full
from endchecks.grounds import ground_of
from endchecks.tables import MOST_ROWS


def partners(several, kept, kind):
    """The list of the kinds to which the links of a kind lead, None for those that lead to no other row."""
    return ground_of(several, kept, False).partners(kind)


def needed_on(ground, kinds):
    """The ascending list of some kinds of a ground, their partners, the partners of these, and so on."""
    needed_kinds = {wanted: True for wanted in kinds}
    waiting = list(needed_kinds)
    while len(waiting) > 0:
        kind = waiting.pop()
        for other in ground.partners(kind):
            if other is not None and other not in needed_kinds:
                needed_kinds[other] = True
                waiting.append(other)
    return sorted(needed_kinds)


def needed(several, kept, kinds):
    """The ascending list of some kinds of kept, their partners, the partners of these, and so on."""
    return needed_on(ground_of(several, kept, False), kinds)


def hub(several, kept, kinds):
    """Tables with three rows of each needed kind."""
    ground = ground_of(several, kept, False)
    every = needed_on(ground, kinds)
    if len(every) * ROWS_OF_A_KIND > MOST_ROWS:
        raise Full(MOST_ROWS)
    return Building(several[0][0].schema, ground, every, words_of(several)).built()
