"""What a team can act as and what is held, and how it spreads round by round."""

from rolereach.courses import Course
from rolereach.errors import MissingError, RoleError, StateError
from rolereach.holdings import Holding


class Scope:
    """Roles, as bits, and a holding. A scope never changes."""

    def __init__(self, holding, mask):
        self.holding = holding
        self.mask = mask

    def is_full(self):
        return self.holding.acted_as(self.mask) == self.mask

    def contains(self, other):
        return other.mask & ~self.mask == 0 and self.holding.reaches_over(other.holding)

    def is_same(self, other):
        return self.mask == other.mask and self.holding.same_levels(other.holding)

    def meets(self, goal):
        word = goal[0]
        if word == "has":
            return self.holding.has(goal[1], goal[2], goal[3])
        if word == "option":
            return self.holding.holds_with_option(goal[1], goal[2], goal[3])
        if word == "act":
            return self.mask & self.holding.roster.bits[goal[1]] != 0
        return self.mask & self.holding.having((goal[1], goal[2])) != 0


def full_scope(holding, mask):
    return Scope(holding, holding.acted_as(mask))


def first_scope(system, team):
    return full_scope(system.holding, system.catalog.roster.mask_of(team))


class Rounds:
    """The scopes of a team, each with all that is possible at the one before."""

    def __init__(self, catalog, scope):
        self.catalog = catalog
        self.scopes = [scope]
        # For each scope the calls that succeeded at the one before and not earlier:
        # tuples (function, role, gifts). A call that succeeded once gives nothing else later.
        self.calls = [[]]
        self._called = {}

    def last(self):
        return self.scopes[-1]

    def go_on(self):
        """Adds the next scope, and tells whether it is another one than the last one."""
        scope = self.last()
        found = scope.holding.copied()
        spread_gifts(scope, found)
        calls = self._new_calls(scope)
        for _, taker, right, thing, option in [gift for call in calls for gift in call[2]]:
            found.receive((right, thing), found.roster.bit_of(taker), option)
        further = full_scope(found, scope.mask)
        if further.is_same(scope):
            return False
        self.scopes.append(further)
        self.calls.append(calls)
        return True

    def _new_calls(self, scope):
        found = []
        for name in self.catalog.names("function"):
            callers = scope.mask & scope.holding.having(("call", name))
            for role in scope.holding.roster.roles_in(callers):
                gifts = None if (name, role) in self._called else gifts_of_call(self.catalog, scope, role, name)
                if gifts is not None:
                    self._called[(name, role)] = True
                    found.append((name, role, gifts))
        return found

    def go_to_end(self):
        going = True
        while going:
            going = self.go_on()

    def seek(self, goal):
        """Goes on until the goal is met or nothing is added, and tells whether it is met."""
        going = True
        while going and not self.last().meets(goal):
            going = self.go_on()
        return going


def spread_gifts(scope, found):
    """Adds what the roles of a scope can give by themselves."""
    roster = found.roster
    for spot in roster.spots:
        givers = scope.mask & scope.holding.keepers(spot)
        if givers != 0:
            takers = roster.admitted[spot[1]]
            # A role does not give to itself, but two roles give to each other.
            if givers & givers - 1 == 0:
                takers = takers & ~givers
            found.receive(spot, takers, True)


def gifts_of_call(catalog, scope, role, name):
    """What a call that a role can make gives, or None if its body fails."""
    course = Course(catalog, scope.holding)
    try:
        course.call(role, name)
    except (RoleError, MissingError, StateError):
        return None
    return course.gifts


def rounds_of(system, team):
    return Rounds(system.catalog, first_scope(system, team))


def scope_of(system, roles, levels):
    """The scope with these roles and levels, or None if they are not for the system."""
    catalog = system.catalog
    roster = catalog.roster
    if not all([catalog.is_role(role) for role in roles]):
        return None
    held = {spot: 0 for spot in roster.spots}
    optioned = {spot: 0 for spot in roster.spots}
    for (taker, right, thing), level in levels.items():
        if not catalog.is_taker(taker) or not catalog.is_right_on(right, thing):
            return None
        spot = (right, thing)
        bit = roster.bit_of(taker)
        held[spot] = held[spot] | bit
        if level == 2:
            optioned[spot] = optioned[spot] | bit
    return Scope(Holding(roster, held, optioned), roster.mask_of(roles))
