"""The takers of a system as the bits of a number, and what follows from its things for them.

Sets of roles are asked for so often that numbers stand for them: each role has a bit, in the
order of the roles, and public has a bit behind those of the eight roles that there may be.
"""

PUBLIC = 256


class Roster:
    """Bits for the takers; for each right on a thing, a spot (right, thing); owners and audiences as bits."""

    def __init__(self, things):
        self.role_names = [thing.name for thing in things if thing.kind == "role"]
        self.places = {role: place for place, role in enumerate(self.role_names)}
        self.bits = {role: 1 << place for place, role in enumerate(self.role_names)}
        self.everyone = (1 << len(self.role_names)) - 1
        self.spots = [(right, thing.name) for thing in things for right in thing.rights()]
        self.owners = {thing.name: self.bits[thing.owner] for thing in things}
        self.admitted = {thing.name: self._admitted_by(thing.audience) for thing in things}

    def _admitted_by(self, audience):
        if audience is None:
            return self.everyone | PUBLIC
        return self.mask_of(audience)

    def bit_of(self, taker):
        return PUBLIC if taker == "public" else self.bits[taker]

    def mask_of(self, roles):
        return sum([self.bits[role] for role in roles])

    def roles_in(self, mask):
        return [role for role in self.role_names if mask & self.bits[role] != 0]

    def ways(self, starts, masks):
        """For each role that can be reached, the role before it on a shortest way, None for a start.

        `masks` has for each place the roles that come next. The nearest roles are the first keys.
        """
        before = {start: None for start in starts}
        known = self.mask_of(starts)
        queue = list(starts)
        at = 0
        while at < len(queue):
            fresh = masks[self.places[queue[at]]] & ~known
            if fresh != 0:
                known = known | fresh
                for role in self.roles_in(fresh):
                    before[role] = queue[at]
                    queue.append(role)
            at += 1
        return before


def turned(columns):
    """The masks read the other way: who points at whom, instead of who is pointed at by whom."""
    return [sum([1 << at for at, column in enumerate(columns) if column >> place & 1 == 1])
            for place in range(len(columns))]


def closed(masks):
    """For each place the places that can be reached from it, itself included, where `masks` has the next ones."""
    found = [mask | 1 << place for place, mask in enumerate(masks)]
    for middle in range(len(masks)):
        further = found[middle]
        found = [mask | further if mask >> middle & 1 == 1 else mask for mask in found]
    return found
