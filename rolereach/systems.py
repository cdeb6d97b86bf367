"""Systems: states of things, grants and defaults."""

from rolereach.catalogs import Catalog
from rolereach.errors import DuplicateDefault, DuplicateGrant, DuplicateName, InvalidDefault, InvalidDefaults
from rolereach.errors import InvalidGrant, InvalidGrants, InvalidKind, InvalidSystem, InvalidThing, InvalidThings
from rolereach.errors import Mismatch, NameTaken, Unrooted
from rolereach.grants import Default, Grant, ascending
from rolereach.holdings import holding_of
from rolereach.names import is_kind, is_list
from rolereach.rooting import ranks_by_key
from rolereach.things import Function, Role, Table

MOST_THINGS = 20
MOST_GRANTS = 2500
MOST_DEFAULTS = 200


class System:
    """A state of things, grants and defaults. A system never changes: each deed leads to another one."""

    def __init__(self, things, grants=(), defaults=()):
        check_things(things)
        self.catalog = Catalog(things)
        self._grants = grants_by_key(self.catalog, grants)
        check_rooted(self.catalog, grants)
        self._defaults = defaults_by_key(self.catalog, defaults)
        self.holding = holding_of(self.catalog.roster, grants)

    def things(self):
        return self.catalog.things()

    def names(self, kind=None):
        if kind is not None and not is_kind(kind):
            raise InvalidKind(kind)
        return self.catalog.names(kind)

    def thing_of(self, name):
        return self.catalog.thing_of(name)

    def owner_of(self, name):
        return self.catalog.owner_of(name)

    def steps(self, name):
        return self.catalog.steps_of(name)

    def grants(self):
        return ascending(list(self._grants.values()))

    def defaults(self):
        return ascending(list(self._defaults.values()))

    def grant_of(self, giver, taker, right, thing):
        """The grant of these four, any values, or None if there is no such grant."""
        key = (giver, taker, right, thing)
        # Only tuples of strings are looked up: one with a list in it cannot be the key of a dict.
        if not all([isinstance(part, str) for part in key]):
            return None
        return self._grants.get(key)

    def option_of(self, giver, taker, right, thing):
        grant = self.grant_of(giver, taker, right, thing)
        return None if grant is None else grant.option

    def has_grant(self, value):
        """Whether the value, any value, equals a grant of this system."""
        return isinstance(value, Grant) and self._grants.get(value.key()) == value

    def same_things(self, other):
        return self.things() == other.things()

    def __len__(self):
        return len(self._grants)

    def __contains__(self, value):
        if not isinstance(value, Grant):
            return False
        grant = self._grants.get(value.key())
        return grant is not None and grant.covers(value)

    def __eq__(self, other):
        return (isinstance(other, System) and self.same_things(other)
                and self._grants == other._grants and self._defaults == other._defaults)

    def __le__(self, other):
        check_system(other)
        return (self.same_things(other) and all_within(self._grants, other._grants)
                and all_within(self._defaults, other._defaults))

    def __ge__(self, other):
        check_system(other)
        return other <= self

    def with_thing(self, thing):
        check_thing(thing)
        if self.catalog.knows(thing.name):
            raise NameTaken(thing.name)
        # All that the catalog checks again for the older things holds as before.
        catalog = Catalog(self.things() + [thing])
        return assembled(catalog, self._grants, self.holding.placed(catalog.roster), self._defaults)

    def with_grant(self, grant):
        check_grant(self.catalog, grant)
        # The grants that are here stand, so what they give with the option can be given further.
        if not self.holding.holds_with_option(grant.giver, grant.right, grant.thing):
            raise Unrooted(grant)
        return self.with_gifts([grant])

    def with_default(self, default):
        check_default(self.catalog, default)
        defaults = merged(self._defaults, [default])
        return assembled(self.catalog, self._grants, self.holding, defaults)

    def joined(self, other):
        check_system(other)
        if not self.same_things(other):
            raise Mismatch(other)
        grants = merged(self._grants, list(other._grants.values()))
        defaults = merged(self._defaults, list(other._defaults.values()))
        return assembled(self.catalog, grants, self.holding.joined(other.holding), defaults)

    def with_gifts(self, grants):
        """The system with these grants besides, which fit its things and stand with its own ones."""
        holding = self.holding.copied()
        for grant in grants:
            holding.receive((grant.right, grant.thing), self.catalog.roster.bit_of(grant.taker), grant.option)
        return assembled(self.catalog, merged(self._grants, grants), holding, self._defaults)

    def with_only(self, grants):
        """The system with these grants in the place of its own ones; all of them stand."""
        by_key = {grant.key(): grant for grant in grants}
        return assembled(self.catalog, by_key, holding_of(self.catalog.roster, grants), self._defaults)


def assembled(catalog, grants, holding, defaults):
    """A system of parts that are known to fit together."""
    # The constructor would check each grant again, which takes long for systems with many grants.
    system = System(())
    system.catalog = catalog
    system._grants = grants
    system._defaults = defaults
    system.holding = holding
    return system


def merged(entries, others):
    """The grants, or defaults, of the dict and of the list, each with the option if it has it in one of them."""
    both = {key: entries[key] for key in entries}
    for entry in others:
        if entry.key() not in both or entry.option:
            both[entry.key()] = entry
    return both


def all_within(entries, others):
    return all([key in others and (others[key].option or not entries[key].option) for key in entries])


def check_system(value):
    if not isinstance(value, System):
        raise InvalidSystem(value)


def check_thing(value):
    if not isinstance(value, (Role, Table, Function)):
        raise InvalidThing(value)


def check_things(things):
    if not is_list(things) or len(things) > MOST_THINGS:
        raise InvalidThings(things)
    names = {}
    for item in things:
        check_thing(item)
        if item.name in names:
            raise DuplicateName(item.name)
        names[item.name] = True


def check_grant(catalog, value):
    if not isinstance(value, Grant) or not catalog.fits_grant(value):
        raise InvalidGrant(value)


def check_grant_list(value):
    if not is_list(value) or len(value) > MOST_GRANTS:
        raise InvalidGrants(value)


def grants_by_key(catalog, grants):
    """The grants of a list under their keys, after the checks of the list and of each item."""
    check_grant_list(grants)
    found = {}
    for item in grants:
        check_grant(catalog, item)
        if item.key() in found:
            raise DuplicateGrant(item)
        found[item.key()] = item
    return found


def check_rooted(catalog, grants):
    ranks = ranks_by_key(catalog, grants)
    for item in grants:
        if item.key() not in ranks:
            raise Unrooted(item)


def check_default(catalog, value):
    if not isinstance(value, Default) or not catalog.fits_default(value):
        raise InvalidDefault(value)


def defaults_by_key(catalog, defaults):
    """The defaults of a list under their keys, after the checks of the list and of each item."""
    if not is_list(defaults) or len(defaults) > MOST_DEFAULTS:
        raise InvalidDefaults(defaults)
    found = {}
    for item in defaults:
        check_default(catalog, item)
        if item.key() in found:
            raise DuplicateDefault(item)
        found[item.key()] = item
    return found
