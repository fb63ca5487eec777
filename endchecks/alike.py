"""Alike: whether two scripts end alike from all legal starting tables."""

from endchecks.errors import Unfit
from endchecks.partings import parting, side_of
from endchecks.paths import built_on
from endchecks.rowkinds import row_kinds
from endchecks.runs import run


def end_alike(one, other, tables, modes, its):
    """Whether two scripts are both done with equal tables, or both fail, from tables."""
    path, end = run(one, tables, modes)
    its_path, its_end = run(other, tables, its)
    if path[1] is None and its_path[1] is None:
        return end == its_end
    return path[1] is not None and its_path[1] is not None


def part(one, other, modes, its, *, most=200):
    """Legal tables from which two scripts do not end alike, or None if there are none."""
    if one.schema != other.schema:
        raise Unfit()
    looks = sorted(set(one.looks() + other.looks()))
    if not _are_flat(looks):
        raise Unfit()
    kinds = row_kinds(one.schema, looks, most=most)
    found = parting(side_of(one, modes, kinds, most), side_of(other, its, kinds, most))
    if found is None:
        return None
    several, ground, unlike = found
    return built_on(several, ground, unlike)


def _are_flat(looks):
    """Whether no table at which rows look has rows that look."""
    lookers = [look[0] for look in looks]
    return not any([look[1] in lookers for look in looks])
