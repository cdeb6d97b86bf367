"""Who holds and who has which right, by ownership and by levels.

A level is 1 for a right and 2 for a right with the option. Levels stand in a dict under
tuples (taker, right, thing).
"""

from rolereach.walks import walk


class Holding:
    """Answers for the things of a catalog and for levels that are not changed any more."""

    def __init__(self, catalog, levels):
        self._catalog = catalog
        self._levels = levels

    def level(self, taker, right, thing):
        return self._levels.get((taker, right, thing), 0)

    def owns(self, role, thing):
        return self._catalog.owner_of(thing) == role

    def holds(self, role, right, thing):
        return (self.owns(role, thing) or self.level(role, right, thing) > 0
                or self.level("public", right, thing) > 0)

    def holds_with_option(self, role, right, thing):
        return self.owns(role, thing) or self.level(role, right, thing) == 2

    def heirs(self):
        """For each role the roles on which it holds inherit."""
        roles = self._catalog.names("role")
        return {role: [other for other in roles if self.holds(role, "inherit", other)] for role in roles}

    def inherited(self, role):
        """The roles that a role inherits, the nearest ones first, each with the role before it."""
        return walk([role], self.heirs())

    def has(self, role, right, thing):
        return any([self.holds(other, right, thing) for other in self.inherited(role)])

    def parts(self):
        """For each role the roles on which it has act."""
        roles = self._catalog.names("role")
        return {role: [other for other in roles if self.has(role, "act", other)] for role in roles}

    def acted_as(self, roles):
        """The roles that can be acted as by these, the nearest ones first, each with the role before it."""
        return walk(roles, self.parts())


def raised(levels, grants):
    """The levels, raised where these grants give more."""
    found = {spot: levels[spot] for spot in levels}
    for grant in grants:
        spot = (grant.taker, grant.right, grant.thing)
        level = 2 if grant.option else 1
        if level > found.get(spot, 0):
            found[spot] = level
    return found
