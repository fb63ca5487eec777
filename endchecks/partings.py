"""Partings: where two scripts do not end alike.

A side is a tuple (script, modes, ends) of a script, the modes that it begins with, and all its paths with the grounds
behind them, as a search has them.
"""

from endchecks.lives import Lives
from endchecks.searches import Search, start_ground
from endchecks.ways import course


def side_of(script, modes, kinds, most):
    """The side of a script by a list of kinds; TooMany if there are more than most paths."""
    return (script, modes, Search(script, modes, 0).ends(start_ground(script, kinds), most))


def parting(one, other):
    """A tuple (several, ground, kinds) from which two sides do not end alike, or None if they always do.

    They do not from any tables by this ground that have three rows of each of these kinds.
    """
    found = _beside_done(one, other, _unlike_ends)
    if found is None:
        return _beside_done(other, one, _unlike_failures)
    return found


def _beside_done(one, other, unlike):
    """A parting where the one side is done and the other one goes some way; unlike tells the kinds for it, or None."""
    for path, ground in one[2]:
        if path[1] is None:
            first = (one[0], course(one[0], one[1], path))
            for its_path, both in Search(other[0], other[1], 1).ends(ground):
                several = [first, (other[0], course(other[0], other[1], its_path))]
                kinds = unlike(several, its_path, both)
                if kinds is not None:
                    return several, both, kinds
    return None


def _unlike_failures(several, its_path, ground):
    """The kinds that are needed where the other side fails; None if it is done."""
    if its_path[1] is None:
        return None
    return []


def _unlike_ends(several, its_path, ground):
    """The kinds that are needed for another end where the other side goes a path; None if all ends are equal."""
    if its_path[1] is not None:
        return []
    lives, its_lives = [Lives(script, its_course[0]) for script, its_course in several]
    handles = [handle for script, its_course in several for handle in script.handles()]
    for handle in handles:
        if _new_end(several[0][0], lives, handle) != _new_end(several[1][0], its_lives, handle):
            return []
    schema = several[0][0].schema
    for kind in ground.kept_kinds():
        if _end(schema, lives, kind) != _end(schema, its_lives, kind):
            return [kind]
    return None


def _new_end(script, lives, handle):
    """The table and the row of a new row in the end, or None if it is not there."""
    if handle not in script.handles():
        return None
    row = lives.life(handle)[-1]
    if row is None:
        return None
    return (lives.home(handle), row)


def _end(schema, lives, kind):
    """A starting row in the end, or None if it is not there; rows of a kind that links to others have other ones."""
    row = lives.life(kind)[-1]
    if row is None:
        return None
    # Two links of one row may both lead to itself: then it does not matter which of them was copied.
    to_itself = [("start", field) for field, link in zip(schema.links(kind[0]), kind[2]) if link == ("self",)]
    return {field: ("self",) if row[field] in to_itself else row[field] for field in row}
