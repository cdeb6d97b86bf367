"""Which of some grants stand, and how far from the owners of their things."""

from rolereach.walks import walk


def option_takers(grants):
    """For each right on a thing, to whom each giver gives it with the option."""
    found = {}
    for grant in grants:
        if grant.option:
            takers = found.setdefault((grant.right, grant.thing), {})
            takers.setdefault(grant.giver, []).append(grant.taker)
    return found


def distances_from(owner, takers):
    """For each role that may grant, the least number of grants that lead to it from the owner."""
    distances = {}
    for role, before in walk([owner], takers).items():
        distances[role] = 0 if before is None else distances[before] + 1
    return distances


def ranks_by_key(catalog, grants):
    """The ranks of the grants that stand. The others are left out, circles too: no owner leads to them."""
    takers = option_takers(grants)
    distances = {}
    ranks = {}
    for grant in grants:
        spot = (grant.right, grant.thing)
        if spot not in distances:
            distances[spot] = distances_from(catalog.owner_of(grant.thing), takers.get(spot, {}))
        if grant.giver in distances[spot]:
            ranks[grant.key()] = distances[spot][grant.giver]
    return ranks


def those_that_stand(catalog, grants):
    ranks = ranks_by_key(catalog, grants)
    return [grant for grant in grants if grant.key() in ranks]
