"""Which grants stand, what falls when grants are revoked, and data that shows it."""

from rolereach.checks import check_flag
from rolereach.errors import UnknownGrant
from rolereach.grants import Grant, ascending
from rolereach.names import is_list, is_number
from rolereach.rooting import option_takers, ranks_by_key, those_that_stand
from rolereach.systems import check_grant_list, check_system, grants_by_key
from rolereach.walks import walk, way_to


def checked_grants(system, grants):
    """The grants under their keys, after the checks that the functions of this file have in common."""
    check_system(system)
    return grants_by_key(system.catalog, grants)


def standing(system, grants):
    checked_grants(system, grants)
    return ascending(those_that_stand(system.catalog, grants))


def ranks(system, grants):
    checked_grants(system, grants)
    by_key = ranks_by_key(system.catalog, grants)
    return [(grant, by_key[grant.key()]) for grant in ascending(grants) if grant.key() in by_key]


def is_ranking(system, grants, rows):
    by_key = checked_grants(system, grants)
    if not is_list(rows) or not all([is_rank_row(by_key, row) for row in rows]):
        return False
    numbers = {grant.key(): number for grant, number in rows}
    # As many rows as grants, and none twice: so each grant has its row.
    if len(rows) != len(by_key) or len(numbers) != len(by_key):
        return False
    lowest = lowest_options(rows)
    return all([has_root(system, lowest, grant, number) for grant, number in rows])


def is_rank_row(by_key, row):
    if not isinstance(row, tuple) or len(row) != 2:
        return False
    grant, number = row
    return isinstance(grant, Grant) and by_key.get(grant.key()) == grant and is_number(number) and number >= 0


def lowest_options(rows):
    """For each right on a thing that a role gets with the option, the least number of these grants."""
    lowest = {}
    for grant, number in rows:
        spot = (grant.taker, grant.right, grant.thing)
        if grant.option and (spot not in lowest or number < lowest[spot]):
            lowest[spot] = number
    return lowest


def has_root(system, lowest, grant, number):
    if system.owner_of(grant.thing) == grant.giver:
        return True
    spot = (grant.giver, grant.right, grant.thing)
    return spot in lowest and lowest[spot] < number


def check_one_of(by_key, grant):
    if not isinstance(grant, Grant) or by_key.get(grant.key()) != grant:
        raise UnknownGrant(grant)


def options_beside(grants, grant):
    """Of these grants, those with the option of the same right on the same thing."""
    return [other for other in grants if other.option and other.right == grant.right and other.thing == grant.thing]


def is_cut_off(system, grants, grant, roles):
    check_one_of(checked_grants(system, grants), grant)
    if not system.catalog.are_roles(roles):
        return False
    if grant.giver not in roles or system.owner_of(grant.thing) in roles:
        return False
    return all([other.giver in roles for other in options_beside(grants, grant) if other.taker in roles])


def cut_off(system, grants, grant):
    check_one_of(checked_grants(system, grants), grant)
    givers = {}
    for other in options_beside(grants, grant):
        givers.setdefault(other.taker, []).append(other.giver)
    # All roles from which the option may have come to the giver.
    sources = walk([grant.giver], givers)
    if system.owner_of(grant.thing) in sources:
        return None
    return sorted([str(role) for role in sources])


def without(system, grants, *, only_option=False):
    check_system(system)
    given = given_keys(system, grants)
    check_flag(only_option)
    kept = those_that_stand(system.catalog, what_is_left(system, given, only_option))
    kept_keys = {grant.key(): True for grant in kept}
    fallen = [grant for grant in system.grants() if grant.key() not in kept_keys]
    if not only_option:
        fallen = [grant for grant in fallen if grant.key() not in given]
    return (system.with_only(kept), fallen)


def given_keys(system, grants):
    check_grant_list(grants)
    given = {}
    for item in grants:
        if not isinstance(item, Grant) or system.grant_of(item.giver, item.taker, item.right, item.thing) is None:
            raise UnknownGrant(item)
        given[item.key()] = True
    return given


def what_is_left(system, given, only_option):
    left = []
    for grant in system.grants():
        if grant.key() not in given:
            left.append(grant)
        elif only_option:
            left.append(grant.with_option(False))
    return left


def support(system, grant):
    check_system(system)
    if not system.has_grant(grant):
        raise UnknownGrant(grant)
    takers = option_takers(options_beside(system.grants(), grant)).get((grant.right, grant.thing), {})
    way = way_to(walk([system.owner_of(grant.thing)], takers), grant.giver)
    return [system.grant_of(giver, taker, grant.right, grant.thing) for giver, taker in zip(way, way[1:])] + [grant]
