"""Who holds and who has which right, by ownership and by levels.

A level is 1 for a right and 2 for a right with the option. For each right on a thing,
the takers with a level stand as the bits of a number.
"""

from rolereach.rosters import PUBLIC, closed, turned


class Holding:
    """Answers for the things of a roster and for levels, which can be raised."""

    def __init__(self, roster, held, optioned):
        self.roster = roster
        self.held = held
        self.optioned = optioned
        # What follows from the levels is kept until one of them is raised that it may depend on.
        self._heirs = None
        self._closures = None
        self._parts = None

    def copied(self):
        held = {spot: self.held[spot] for spot in self.held}
        optioned = {spot: self.optioned[spot] for spot in self.optioned}
        same = Holding(self.roster, held, optioned)
        # Lists that are kept are never changed, so both may have them.
        same._heirs = self._heirs
        same._closures = self._closures
        same._parts = self._parts
        return same

    def placed(self, roster):
        """The same levels for a roster that has the same roles first, and the same things, perhaps more."""
        held = {spot: self.held.get(spot, 0) for spot in roster.spots}
        optioned = {spot: self.optioned.get(spot, 0) for spot in roster.spots}
        return Holding(roster, held, optioned)

    def joined(self, other):
        """The greater level of both, for the same things."""
        held = {spot: self.held[spot] | other.held[spot] for spot in self.held}
        optioned = {spot: self.optioned[spot] | other.optioned[spot] for spot in self.held}
        return Holding(self.roster, held, optioned)

    def receive(self, spot, takers, option):
        """Raises the levels of these takers, of the roles among them with the option if there is one."""
        self.held[spot] = self.held[spot] | takers
        if option:
            self.optioned[spot] = self.optioned[spot] | takers & self.roster.everyone
        if spot[0] == "inherit":
            self._heirs = None
            self._closures = None
        if spot[0] == "inherit" or spot[0] == "act":
            self._parts = None

    def holders(self, spot):
        takers = self.held[spot]
        if takers & PUBLIC != 0:
            return self.roster.everyone
        return takers | self.roster.owners[spot[1]]

    def keepers(self, spot):
        """The roles that hold the right with the option."""
        return self.optioned[spot] | self.roster.owners[spot[1]]

    def holds(self, role, right, thing):
        return self.holders((right, thing)) & self.roster.bits[role] != 0

    def holds_with_option(self, role, right, thing):
        return self.keepers((right, thing)) & self.roster.bits[role] != 0

    def heirs(self):
        """For each role, by its place, the roles on which it holds inherit."""
        if self._heirs is None:
            self._heirs = turned([self.holders(("inherit", role)) for role in self.roster.role_names])
        return self._heirs

    def closures(self):
        """For each role, by its place, the roles that it inherits."""
        if self._closures is None:
            self._closures = closed(self.heirs())
        return self._closures

    def inherited(self, role):
        return self.closures()[self.roster.places[role]]

    def having(self, spot):
        """The roles that have the right."""
        holders = self.holders(spot)
        if holders == self.roster.everyone:
            return holders
        return sum([1 << place for place, mask in enumerate(self.closures()) if mask & holders != 0])

    def has(self, role, right, thing):
        return self.inherited(role) & self.holders((right, thing)) != 0

    def parts(self):
        """For each role, by its place, the roles on which it has act."""
        if self._parts is None:
            self._parts = turned([self.having(("act", role)) for role in self.roster.role_names])
        return self._parts

    def acted_as(self, mask):
        """The roles that can be acted as by these."""
        parts = self.parts()
        found = 0
        while found != mask:
            found = mask
            for place, further in enumerate(parts):
                if mask >> place & 1 == 1:
                    mask = mask | further
        return mask

    def ways_of_inheriting(self, role):
        return self.roster.ways([role], self.heirs())

    def ways_of_acting(self, roles):
        return self.roster.ways(roles, self.parts())

    def same_levels(self, other):
        return self.held == other.held and self.optioned == other.optioned

    def reaches_over(self, other):
        """Whether each level of the other one is at most that of this one, for the same things."""
        return (all([other.held[spot] & ~self.held[spot] == 0 for spot in self.held])
                and all([other.optioned[spot] & ~self.optioned[spot] == 0 for spot in self.held]))

    def levels(self):
        """A dict from tuples (taker, right, thing) to 1 or 2."""
        found = {}
        for right, thing in self.roster.spots:
            held = self.held[(right, thing)]
            optioned = self.optioned[(right, thing)]
            for taker, bit in self.roster.bits.items():
                if held & bit != 0:
                    found[(taker, right, thing)] = 2 if optioned & bit != 0 else 1
            if held & PUBLIC != 0:
                found[("public", right, thing)] = 1
        return found


def holding_of(roster, grants):
    """What is held by these grants and by the owners."""
    held = {spot: 0 for spot in roster.spots}
    optioned = {spot: 0 for spot in roster.spots}
    for grant in grants:
        spot = (grant.right, grant.thing)
        bit = roster.bit_of(grant.taker)
        held[spot] = held[spot] | bit
        if grant.option:
            optioned[spot] = optioned[spot] | bit
    return Holding(roster, held, optioned)
