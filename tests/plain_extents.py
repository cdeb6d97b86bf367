"""A plain reading of extents [102] to [106], to compare the program with.

Here an extent is a pair of a set of roles and a dict of levels.
"""

from rolereach.extents import Extent
from rolereach.things import Call
from tests.plain_deeds import ROLES
from tests.worlds import RIGHTS_OF, questions


def level_holds(system, levels, role, right, thing, option=False):
    if system.owner_of(thing) == role:
        return True
    if option:
        return levels.get((role, right, thing)) == 2
    return (role, right, thing) in levels or ("public", right, thing) in levels


def level_inherited(system, levels, role):
    found = {role}
    while True:
        more = {other for other in system.names("role")
                for one in found if level_holds(system, levels, one, "inherit", other)} | found
        if more == found:
            return found
        found = more


def level_has(system, levels, role, right, thing):
    return any(level_holds(system, levels, one, right, thing) for one in level_inherited(system, levels, role))


def full_roles(system, levels, roles):
    found = set(roles)
    while True:
        more = {other for other in system.names("role")
                for one in found if level_has(system, levels, one, "act", other)} | found
        if more == found:
            return found
        found = more


def raised(levels, taker, right, thing, option):
    more = dict(levels)
    spot = (taker, right, thing)
    more[spot] = max(more.get(spot, 0), 2 if option and taker != "public" else 1)
    return more


def plain_begin(system, team):
    levels = {}
    for grant in system.grants():
        levels = raised(levels, grant.taker, grant.right, grant.thing, grant.option)
    return full_roles(system, levels, team), levels


class Impossible(Exception):
    """A deed of a body is not possible."""


def after_call(system, levels, role, name):
    """The levels after a call; raises Impossible."""
    if not level_has(system, levels, role, "call", name):
        raise Impossible()
    function = system.thing_of(name)
    actor = function.owner if function.mode == "owner" else role
    for deed in function.body():
        if isinstance(deed, Call):
            levels = after_call(system, levels, actor, deed.function)
            continue
        taker = role if deed.taker == "caller" else deed.taker
        if not level_holds(system, levels, actor, deed.right, deed.thing, True):
            raise Impossible()
        if not system.thing_of(deed.thing).admits(taker):
            raise Impossible()
        if taker != actor:
            levels = raised(levels, taker, deed.right, deed.thing, deed.option)
    return levels


def joined(levels, other):
    return {spot: max(levels.get(spot, 0), other.get(spot, 0)) for spot in list(levels) + list(other)}


def plain_advance(system, extent):
    roles, levels = extent
    found = dict(levels)
    for role in roles:
        for thing in system.things():
            for right in RIGHTS_OF[thing.kind]:
                if level_holds(system, levels, role, right, thing.name, True):
                    for taker in system.names("role") + ["public"]:
                        if taker != role and thing.admits(taker):
                            found = raised(found, taker, right, thing.name, True)
        for name in system.names("function"):
            try:
                found = joined(found, after_call(system, levels, role, name))
            except Impossible:
                pass
    return full_roles(system, found, roles), found


def plain_rounds(system, team):
    found = [plain_begin(system, team)]
    while True:
        further = plain_advance(system, found[-1])
        if further == found[-1]:
            return found
        found.append(further)


def plain_meets(system, extent, goal):
    roles, levels = extent
    if goal[0] == "has":
        return level_has(system, levels, *goal[1:])
    if goal[0] == "option":
        return level_holds(system, levels, *goal[1:], True)
    if goal[0] == "act":
        return goal[1] in roles
    return any(level_has(system, levels, role, *goal[1:]) for role in roles)


def plain(extent):
    return set(extent.roles()), extent.levels()


def made(extent):
    return Extent(sorted(extent[0]), extent[1])


def all_goals(system):
    """Each goal with roles and things of the system."""
    goals = [("act", role) for role in system.names("role")]
    for role, right, thing in questions(system):
        goals += [("has", role, right, thing), ("option", role, right, thing)]
    return goals + [("use", right, thing.name) for thing in system.things() for right in RIGHTS_OF[thing.kind]]


def some_team(dice):
    return [role for role in ROLES if dice.below(3) == 0]


def some_extent(dice, system):
    """An extent for the system, which need not be full, and need not contain anything."""
    levels = {}
    for _ in range(dice.below(14)):
        thing = dice.pick(system.things())
        taker = dice.pick(ROLES + ["public"])
        levels = raised(levels, taker, dice.pick(RIGHTS_OF[thing.kind]), thing.name, dice.below(2) == 0)
    return set(some_team(dice)), levels


def with_less(dice, extent):
    """All that is one role or one level less, or a part of it."""
    roles, levels = extent
    found = [(roles - {role}, levels) for role in roles]
    for spot in levels:
        found.append((roles, {other: levels[other] for other in levels if other != spot}))
        if levels[spot] == 2:
            found.append((roles, {**levels, spot: 1}))
    return found[dice.below(3)::3]


def with_more(dice, system, extent):
    roles, levels = extent
    found = [(roles | {role}, levels) for role in ROLES if role not in roles]
    for role, right, thing in questions(system):
        if levels.get((role, right, thing)) != 2:
            found.append((roles, raised(levels, role, right, thing, dice.below(2) == 0)))
    return found[dice.below(5)::5]
