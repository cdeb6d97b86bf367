"""Grants of rights, and defaults for new things, each with its order."""

from rolereach.checks import check_made_kind, check_name, check_option, check_right, check_right_on, check_taker_from
from rolereach.errors import InvalidDefault, InvalidGrant
from rolereach.names import MADE_KINDS, RIGHTS


class Grant:
    """A right on a thing, given by a role to a taker."""

    def __init__(self, giver, taker, right, thing, *, option=False):
        check_name(giver)
        check_taker_from(giver, taker)
        check_right(right)
        check_name(thing)
        check_option(option, taker)
        self.giver = giver
        self.taker = taker
        self.right = right
        self.thing = thing
        self.option = option
        # A space comes before each letter, so the order of these texts is that of the grants.
        self.place = f"{thing} {RIGHTS.index(right)} {giver} {taker} {int(option)}"

    def covers(self, other):
        check_is_grant(other)
        return self.key() == other.key() and (self.option or not other.option)

    def with_option(self, option):
        return Grant(self.giver, self.taker, self.right, self.thing, option=option)

    def key(self):
        return (self.giver, self.taker, self.right, self.thing)

    def __eq__(self, other):
        return isinstance(other, Grant) and self.place == other.place

    def __lt__(self, other):
        check_is_grant(other)
        return self.place < other.place

    def __le__(self, other):
        check_is_grant(other)
        return self.place <= other.place

    def __gt__(self, other):
        check_is_grant(other)
        return self.place > other.place

    def __ge__(self, other):
        check_is_grant(other)
        return self.place >= other.place


class Default:
    """What is granted to a taker on each new thing of a kind that a role makes."""

    def __init__(self, maker, kind, right, taker, *, option=False):
        check_name(maker)
        check_made_kind(kind)
        check_right_on(kind, right)
        check_taker_from(maker, taker)
        check_option(option, taker)
        self.maker = maker
        self.kind = kind
        self.right = right
        self.taker = taker
        self.option = option
        # As with grants, the order of these texts is that of the defaults.
        self.place = f"{maker} {MADE_KINDS.index(kind)} {RIGHTS.index(right)} {taker} {int(option)}"

    def grant_on(self, thing):
        return Grant(self.maker, self.taker, self.right, thing, option=self.option)

    def key(self):
        return (self.maker, self.kind, self.right, self.taker)

    def __eq__(self, other):
        return isinstance(other, Default) and self.place == other.place

    def __lt__(self, other):
        check_is_default(other)
        return self.place < other.place

    def __le__(self, other):
        check_is_default(other)
        return self.place <= other.place

    def __gt__(self, other):
        check_is_default(other)
        return self.place > other.place

    def __ge__(self, other):
        check_is_default(other)
        return self.place >= other.place


def check_is_grant(value):
    if not isinstance(value, Grant):
        raise InvalidGrant(value)


def check_is_default(value):
    if not isinstance(value, Default):
        raise InvalidDefault(value)


def ascending(items):
    """Grants, or defaults, in their order; no two of them are equal."""
    by_place = {item.place: item for item in items}
    return [by_place[place] for place in sorted([str(place) for place in by_place])]
