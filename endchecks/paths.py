"""Paths: which ways a script can go from legal starting tables, and tables for each of them."""

from endchecks.buildings import MOST_AT_START, ROWS_OF_A_KIND, Building, words_of
from endchecks.doing import done, holds_within
from endchecks.errors import Full
from endchecks.grounds import ground_of, looks_of
from endchecks.hubs import needed_on
from endchecks.names import is_name
from endchecks.rowkinds import row_kinds
from endchecks.searches import Search, start_ground
from endchecks.spots import holds, is_legal
from endchecks.supports import Reasons, all_kinds, are_falls
from endchecks.ways import course, is_path


def fits(several, tables):
    """Whether tables are legal starting tables from which each event of each course holds or breaks as it tells."""
    if not _is_start(tables) or not is_legal(tables):
        return False
    return all([_fits_one(script, its_course, tables) for script, its_course in several])


def _is_start(tables):
    """Whether tables have nothing with "+"."""
    schema = tables.schema
    links = []
    for table in schema.tables():
        rows = tables.rows(table)
        links.extend([rows[ident][field] for ident in rows for field in schema.links(table)])
    told = tables.ids() + tables.names() + [link for link in links if link is not None]
    return all([is_name(name) for name in told])


def _fits_one(script, its_course, tables):
    steps, events = its_course
    try:
        gone = _all_tables(script, steps, tables)
    except Full:
        return False
    for moment, address, name, way, passed in events:
        if way == "within":
            has_held = holds_within(gone[moment - 1], script.statement_at(address), name)
        else:
            has_held = holds(gone[moment], name)
        if has_held != passed:
            return False
    return True


def _all_tables(script, steps, tables):
    """The list of the Tables at all moments."""
    gone = [tables]
    kept = {}
    for address, word in steps:
        now = gone[-1]
        if word == "keep":
            kept[address] = now
        elif word == "undo":
            now = kept[address]
        else:
            now = done(now, script.statement_at(address))
        gone.append(now)
    return gone


def _whole_ground(several, most):
    """The Ground of all kinds."""
    return ground_of(several, row_kinds(several[0][0].schema, looks_of(several), most=most))


def tables_for(several, kinds=(), *, most=200):
    """Tables that fit and have three rows or more of each of some kinds, or None if there are none that fit."""
    return built_on(several, _whole_ground(several, most), kinds)


def built_on(several, ground, kinds):
    """Tables that fit, as tables_for has it, by the Ground of all kinds."""
    if ground.barred() is not None:
        return None
    every = needed_on(ground, kinds)
    spots = []
    for finding in ground.broken():
        spot = ground.spot_near(finding, every)
        if spot not in spots:
            spots.append(spot)
            every = needed_on(ground, every + _kinds_in(spot))
    for meeting in ground.meeting_kinds():
        if not any([kind in every for kind in meeting]):
            every = needed_on(ground, [*every, meeting[0]])
    if len(every) * ROWS_OF_A_KIND > MOST_AT_START:
        raise Full(MOST_AT_START)
    building = Building(several[0][0].schema, ground, every, words_of(several))
    building.add_spots(spots)
    return building.built()


def _kinds_in(spot):
    """The list of the kinds of a spot."""
    if spot[0] == "new":
        return []
    if spot[0] in ("linked", "shared"):
        return [spot[1], spot[3]]
    return [spot[1]]


def bar(several, *, most=200):
    """Why no tables fit: a tuple (falls, reason); None if some do."""
    ground = _whole_ground(several, most)
    reason = ground.barred()
    if reason is None:
        return None
    return ground.falls(), reason


def is_bar(several, thing):
    """Whether a value is a tuple (falls, reason) that shows that no tables fit."""
    if not isinstance(thing, tuple) or len(thing) != 2 or not are_falls(several, thing[0]):
        return False
    falls, reason = thing
    if not isinstance(reason, tuple) or len(reason) not in (3, 4):
        return False
    reasons = Reasons(several)
    number, check = reason[1:3]
    if not reasons.is_check(number, check):
        return False
    judge = reasons.judge_of(number)
    if len(reason) == 4:
        return reason[0] == "new" and _is_in_the_way(several[number][0], judge, check, reason[3])
    if judge.rule_at(check)[1] == "some":
        return reason[0] == "some" and check[4] and _left(several, falls).is_unmet(judge, check)
    return reason[0] == "spot" and not check[4] and _left(several, falls).has_no_spot(judge, check)


def _is_in_the_way(script, judge, check, handle):
    """Whether a value is the handle of a new row that goes against a check."""
    if not is_name(handle) or handle not in script.handles():
        return False
    if judge.rule_at(check)[1] == "some":
        return not check[4] and judge.meets_some(check, handle)
    return check[4] and judge.new_breaks(check, handle)


def _left(several, falls):
    """The Ground of all kinds but those that fell."""
    fallen = {kind: True for kind, reason in falls}
    return ground_of(several, [kind for kind in all_kinds(several) if kind not in fallen], False)


def paths(script, modes, *, most=200):
    """The list of all paths that runs go from some legal starting tables."""
    kinds = row_kinds(script.schema, script.looks(), most=most)
    ends = Search(script, modes, 0).ends(start_ground(script, kinds), most)
    return [path for path, ground in ends]


def can_go(script, modes, path, *, most=200):
    """Whether a path is one that a run goes from some legal starting tables."""
    kinds = row_kinds(script.schema, script.looks(), most=most)
    if not is_path(script, modes, path):
        return False
    return ground_of([(script, course(script, modes, path))], kinds).barred() is None


def tables_on(script, modes, path, *, most=200):
    """Legal starting tables from which the run goes a path, or None."""
    kinds = row_kinds(script.schema, script.looks(), most=most)
    if not is_path(script, modes, path):
        return None
    several = [(script, course(script, modes, path))]
    return built_on(several, ground_of(several, kinds), [])
