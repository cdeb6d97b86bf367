"""The things of a system, in their order, and what follows from them alone."""

from rolereach.errors import InvalidStep, Mismatch, TooLong, TooMany, UnknownRole, UnknownThing
from rolereach.names import is_list, is_right, kind_of
from rolereach.rosters import Roster
from rolereach.things import Call

MOST_OF_KINDS = (("role", 8), ("table", 6), ("function", 6))
MOST_STEPS = 40


class Catalog:
    """Things with distinct names, whose owners, audiences and bodies fit together."""

    def __init__(self, things):
        check_counts(things)
        self._things = list(things)
        self._by_name = {thing.name: thing for thing in things}
        self._steps = {}
        for thing in self._things:
            self._check_roles_of(thing)
            if thing.kind == "function":
                self._add_steps_of(thing)
        self.roster = Roster(self._things)

    def _check_roles_of(self, thing):
        for name in [thing.owner] + (thing.audience or []):
            self.check_role(name)

    def _add_steps_of(self, function):
        body = function.body()
        for index, deed in enumerate(body):
            if not self._is_possible(deed):
                raise InvalidStep(function.name, index)
        steps = len(body) + sum([self._steps[deed.function] for deed in body if isinstance(deed, Call)])
        if steps > MOST_STEPS:
            raise TooLong(steps)
        self._steps[function.name] = steps

    def _is_possible(self, deed):
        if isinstance(deed, Call):
            # The steps of the functions that are listed before are known, and of no other ones.
            return deed.function in self._steps
        return self.is_right_on(deed.right, deed.thing) and (deed.taker == "caller" or self.is_taker(deed.taker))

    def things(self):
        return list(self._things)

    def names(self, kind):
        return [thing.name for thing in self._things if kind is None or thing.kind == kind]

    def knows(self, name):
        # Only strings are looked up: a list cannot be the key of a dict.
        return isinstance(name, str) and name in self._by_name

    def is_role(self, name):
        return self.knows(name) and self._by_name[name].kind == "role"

    def is_function(self, name):
        # Only functions have steps.
        return isinstance(name, str) and name in self._steps

    def are_roles(self, value):
        """Whether the value, any value, is a list of distinct names of roles."""
        if not is_list(value) or not all([self.is_role(item) for item in value]):
            return False
        return len(set(value)) == len(value)

    def is_taker(self, name):
        return name == "public" or self.is_role(name)

    def is_right_on(self, right, name):
        return is_right(right) and self.knows(name) and kind_of(right) == self._by_name[name].kind

    def check_spot(self, right, name):
        """The checks of a right and of a thing that it is to be a right on."""
        if not self.knows(name):
            raise UnknownThing(name)
        if not self.is_right_on(right, name):
            raise Mismatch(right)

    def check_role(self, name):
        if not self.is_role(name):
            raise UnknownRole(name)

    def check_taker(self, name):
        if not self.is_taker(name):
            raise UnknownRole(name)

    def thing_of(self, name):
        if not self.knows(name):
            raise UnknownThing(name)
        return self._by_name[name]

    def owner_of(self, name):
        return self.thing_of(name).owner

    def steps_of(self, name):
        if not self.is_function(name):
            raise UnknownThing(name)
        return self._steps[name]

    def fits_grant(self, grant):
        return (self.is_role(grant.giver) and self.is_taker(grant.taker)
                and self.is_right_on(grant.right, grant.thing) and self.thing_of(grant.thing).admits(grant.taker))

    def fits_default(self, default):
        return self.is_role(default.maker) and self.is_taker(default.taker)


def check_counts(things):
    for kind, most in MOST_OF_KINDS:
        count = len([thing for thing in things if thing.kind == kind])
        if count > most:
            raise TooMany(count)
