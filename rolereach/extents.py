"""Extents: what a team can act as and what is held, at some time or ever, and the goals at them."""

from rolereach.access import check_team
from rolereach.errors import InvalidExtent, InvalidGoal, InvalidLevels, InvalidNames
from rolereach.names import is_name, is_names, is_number, is_right, is_taker
from rolereach.scopes import Rounds, first_scope, rounds_of, scope_of
from rolereach.systems import check_system

MOST_ROLES = 8


class Extent:
    """Roles that can be acted as, and levels: 1 for a right, 2 for a right with the option."""

    def __init__(self, roles, levels):
        if not is_names(roles, MOST_ROLES):
            raise InvalidNames(roles)
        if not are_levels(levels):
            raise InvalidLevels(levels)
        self._roles = sorted([str(role) for role in roles])
        self._levels = {spot: levels[spot] for spot in levels}

    def roles(self):
        return list(self._roles)

    def levels(self):
        return {spot: self._levels[spot] for spot in self._levels}

    def level(self, taker, right, thing):
        spot = (taker, right, thing)
        # Only strings are looked up: a list cannot be a part of the key of a dict.
        if not all([isinstance(part, str) for part in spot]):
            return 0
        return self._levels.get(spot, 0)

    def rows(self):
        # A space comes before each letter, so the order of these texts is that of the tuples.
        texts = {" ".join(spot): spot for spot in self._levels}
        spots = [texts[line] for line in sorted([str(text) for text in texts])]
        return [(taker, right, thing, self._levels[(taker, right, thing)]) for taker, right, thing in spots]

    def __len__(self):
        return len(self._levels)

    def __eq__(self, other):
        return isinstance(other, Extent) and self._roles == other._roles and self._levels == other._levels

    def __le__(self, other):
        check_extent(other)
        return (all([role in other._roles for role in self._roles])
                and all([self._levels[spot] <= other._levels.get(spot, 0) for spot in self._levels]))

    def __ge__(self, other):
        check_extent(other)
        return other <= self

    def __or__(self, other):
        check_extent(other)
        levels = {spot: self._levels[spot] for spot in self._levels}
        for spot in other._levels:
            if other._levels[spot] > levels.get(spot, 0):
                levels[spot] = other._levels[spot]
        return Extent(self._roles + [role for role in other._roles if role not in self._roles], levels)

    def __and__(self, other):
        check_extent(other)
        levels = {}
        for spot in self._levels:
            if spot in other._levels:
                levels[spot] = lesser(self._levels[spot], other._levels[spot])
        return Extent([role for role in self._roles if role in other._roles], levels)


def lesser(one, other):
    return one if one < other else other


def are_levels(value):
    return isinstance(value, dict) and all([is_level(spot, level) for spot, level in value.items()])


def is_level(spot, level):
    if not isinstance(spot, tuple) or len(spot) != 3:
        return False
    taker, right, thing = spot
    if not is_taker(taker) or not is_right(right) or not is_name(thing) or not is_number(level):
        return False
    return level == 1 or (level == 2 and taker != "public")


def check_extent(value):
    if not isinstance(value, Extent):
        raise InvalidExtent(value)


def extent_of(scope):
    """The extent of a scope, whose roles and levels are known to be right."""
    roles = scope.holding.roster.roles_in(scope.mask)
    extent = Extent((), {})
    extent._roles = sorted([str(role) for role in roles])
    extent._levels = scope.holding.levels()
    return extent


def scope_in(system, value):
    """The scope of an extent for the system; None for any other value."""
    if not isinstance(value, Extent):
        return None
    return scope_of(system, value.roles(), value.levels())


def checked_scope(system, extent):
    scope = scope_in(system, extent)
    if scope is None:
        raise InvalidExtent(extent)
    return scope


def begin(system, team):
    check_system(system)
    check_team(system, team)
    return extent_of(first_scope(system, team))


def advanced(system, scope):
    """The least full scope that contains a scope and all that is possible at it."""
    found = Rounds(system.catalog, scope)
    found.go_on()
    return found.last()


def advance(system, extent):
    check_system(system)
    return extent_of(advanced(system, checked_scope(system, extent)))


def is_closed_scope(system, team, scope):
    return (scope.is_full() and scope.contains(first_scope(system, team))
            and advanced(system, scope).is_same(scope))


def is_closed(system, team, value):
    check_system(system)
    check_team(system, team)
    scope = scope_in(system, value)
    return scope is not None and is_closed_scope(system, team, scope)


def all_rounds(system, team):
    """The rounds of a team to the end, after the checks of both."""
    check_system(system)
    check_team(system, team)
    found = rounds_of(system, team)
    found.go_to_end()
    return found


def reach(system, team):
    return extent_of(all_rounds(system, team).last())


def rounds(system, team):
    return [extent_of(scope) for scope in all_rounds(system, team).scopes]


def is_goal(system, value):
    check_system(system)
    if not isinstance(value, tuple) or len(value) < 2:
        return False
    catalog = system.catalog
    if value[0] == "has" or value[0] == "option":
        return len(value) == 4 and catalog.is_role(value[1]) and catalog.is_right_on(value[2], value[3])
    if value[0] == "act":
        return len(value) == 2 and catalog.is_role(value[1])
    return value[0] == "use" and len(value) == 3 and catalog.is_right_on(value[1], value[2])


def check_goal(system, value):
    if not is_goal(system, value):
        raise InvalidGoal(value)


def meets(system, extent, goal):
    check_system(system)
    scope = checked_scope(system, extent)
    check_goal(system, goal)
    return scope.meets(goal)
