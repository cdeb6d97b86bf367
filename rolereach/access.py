"""Who has which right and who can act as whom, with reasons and barriers that show it."""

from rolereach.checks import check_flag, check_right
from rolereach.errors import InvalidTeam
from rolereach.names import is_list
from rolereach.systems import check_system
from rolereach.walks import way_to


def check_question(system, role, right, thing):
    """The checks of a role, a right and a thing, which most functions of this file have in common."""
    check_system(system)
    system.catalog.check_role(role)
    check_right(right)
    system.catalog.check_spot(right, thing)


def roles_in(system, mask):
    return system.catalog.roster.roles_in(mask)


def inherited(system, role):
    check_system(system)
    system.catalog.check_role(role)
    return roles_in(system, system.holding.inherited(role))


def holds(system, role, right, thing, *, option=False):
    check_question(system, role, right, thing)
    check_flag(option)
    if option:
        return system.holding.holds_with_option(role, right, thing)
    return system.holding.holds(role, right, thing)


def has(system, role, right, thing):
    check_question(system, role, right, thing)
    return system.holding.has(role, right, thing)


def reason(system, role, right, thing):
    check_question(system, role, right, thing)
    before = system.holding.ways_of_inheriting(role)
    # The nearest roles come first, so the way to the first holder is a shortest one.
    holders = [other for other in before if system.holding.holds(other, right, thing)]
    if len(holders) == 0:
        return None
    way = way_to(before, holders[0])
    links = [link(system, heir, "inherit", other) for heir, other in zip(way, way[1:])]
    return links + [link(system, holders[0], right, thing)]


def link(system, holder, right, thing):
    """The link for a role that holds the right."""
    if system.owner_of(thing) == holder:
        return (holder, right, thing, None)
    pairs = [(giver, taker) for giver in system.names("role") for taker in (holder, "public")]
    grants = [system.grant_of(giver, taker, right, thing) for giver, taker in pairs]
    return (holder, right, thing, [grant for grant in grants if grant is not None][0])


def is_reason(system, role, right, thing, value):
    check_question(system, role, right, thing)
    if not is_list(value) or len(value) == 0 or not all([is_link(system, item) for item in value]):
        return False
    if value[0][0] != role or value[-1][1] != right or value[-1][2] != thing:
        return False
    return all([one[1] == "inherit" and one[2] == other[0] for one, other in zip(value, value[1:])])


def is_link(system, value):
    if not isinstance(value, tuple) or len(value) != 4:
        return False
    holder, right, thing, grant = value
    if not system.catalog.is_role(holder) or not system.catalog.is_right_on(right, thing):
        return False
    if system.owner_of(thing) == holder:
        return grant is None
    if not system.has_grant(grant):
        return False
    return grant.right == right and grant.thing == thing and grant.taker in (holder, "public")


def barrier(system, role, right, thing):
    check_question(system, role, right, thing)
    if system.holding.has(role, right, thing):
        return None
    return roles_in(system, system.holding.inherited(role))


def is_barrier(system, role, right, thing, roles):
    check_question(system, role, right, thing)
    if not system.catalog.are_roles(roles) or role not in roles:
        return False
    mask = system.catalog.roster.mask_of(roles)
    if system.holding.holders((right, thing)) & mask != 0:
        return False
    heirs = system.holding.heirs()
    return all([heirs[system.catalog.roster.places[member]] & ~mask == 0 for member in roles])


class Access:
    """Who has which right in a system: to be called, or asked for all rows."""

    def __init__(self, system):
        check_system(system)
        self._system = system
        self._rows = rows_of(system)
        self._known = {row: True for row in self._rows}

    def __call__(self, role, right, thing):
        return has(self._system, role, right, thing)

    def __contains__(self, value):
        # Only tuples of strings are looked up: one with a list in it cannot be the key of a dict.
        if not isinstance(value, tuple) or not all([isinstance(part, str) for part in value]):
            return False
        return value in self._known

    def __len__(self):
        return len(self._rows)

    def rows(self):
        return list(self._rows)


def rows_of(system):
    roster = system.catalog.roster
    spots = [(right, thing, system.holding.having((right, thing))) for right, thing in roster.spots]
    return [(role, right, thing) for role in roster.role_names for right, thing, those in spots
            if those & roster.bits[role] != 0]


def check_team(system, roles):
    if not system.catalog.are_roles(roles):
        raise InvalidTeam(roles)


def acting(system, roles):
    check_system(system)
    check_team(system, roles)
    return roles_in(system, system.holding.acted_as(system.catalog.roster.mask_of(roles)))


def act_path(system, roles, role):
    check_system(system)
    check_team(system, roles)
    system.catalog.check_role(role)
    before = system.holding.ways_of_acting(roles)
    if role not in before:
        return None
    return way_to(before, role)
