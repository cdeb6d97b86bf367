"""Deeds, and the things that they are done to."""

from rolereach.checks import check_flag, check_made_kind, check_name, check_option
from rolereach.checks import check_right, check_right_on, check_taker
from rolereach.errors import InvalidAudience, InvalidBody, InvalidMode, InvalidThing
from rolereach.names import is_list, is_names, rights_of

MOST_IN_AUDIENCE = 8
MOST_IN_BODY = 4
MODES = ("owner", "caller")


class Deed:
    """The base class of the deeds."""


class Give(Deed):
    """Grants a right."""

    def __init__(self, right, thing, taker, *, option=False):
        check_right(right)
        check_name(thing)
        if taker != "caller":
            check_taker(taker)
        check_option(option, taker)
        self.right = right
        self.thing = thing
        self.taker = taker
        self.option = option

    def __eq__(self, other):
        return (isinstance(other, Give) and self.right == other.right and self.thing == other.thing
                and self.taker == other.taker and self.option == other.option)

    def __str__(self):
        words = ["give", self.right, self.thing, self.taker]
        if self.option:
            words.append("option")
        return " ".join(words)


class Take(Deed):
    """Revokes a grant, or only its option."""

    def __init__(self, right, thing, taker, *, giver=None, only_option=False, cascade=False):
        check_right(right)
        check_name(thing)
        check_taker(taker)
        if giver is not None:
            check_name(giver)
        check_flag(only_option)
        check_flag(cascade)
        self.right = right
        self.thing = thing
        self.taker = taker
        self.giver = giver
        self.only_option = only_option
        self.cascade = cascade

    def __eq__(self, other):
        return (isinstance(other, Take) and self.right == other.right and self.thing == other.thing
                and self.taker == other.taker and self.giver == other.giver
                and self.only_option == other.only_option and self.cascade == other.cascade)

    def __str__(self):
        words = ["take", self.right, self.thing, self.taker]
        if self.giver is not None:
            words.append("by")
            words.append(self.giver)
        if self.only_option:
            words.append("option")
        if self.cascade:
            words.append("cascade")
        return " ".join(words)


class Call(Deed):
    """Calls a function."""

    def __init__(self, function):
        check_name(function)
        self.function = function

    def __eq__(self, other):
        return isinstance(other, Call) and self.function == other.function

    def __str__(self):
        return " ".join(["call", self.function])


class Preset(Deed):
    """Makes a default for new things of a kind."""

    def __init__(self, kind, right, taker, *, option=False):
        check_made_kind(kind)
        check_right_on(kind, right)
        check_taker(taker)
        check_option(option, taker)
        self.kind = kind
        self.right = right
        self.taker = taker
        self.option = option

    def __eq__(self, other):
        return (isinstance(other, Preset) and self.kind == other.kind and self.right == other.right
                and self.taker == other.taker and self.option == other.option)

    def __str__(self):
        words = ["preset", self.kind, self.right, self.taker]
        if self.option:
            words.append("option")
        return " ".join(words)


class Use(Deed):
    """Uses a right."""

    def __init__(self, right, thing):
        check_right(right)
        check_name(thing)
        self.right = right
        self.thing = thing

    def __eq__(self, other):
        return isinstance(other, Use) and self.right == other.right and self.thing == other.thing

    def __str__(self):
        return " ".join(["use", self.right, self.thing])


class Thing:
    """The base class of roles, tables and functions.

    The interface lists rights, admits and == for all four of these classes,
    so each of them has these in its own body.
    """

    def __init__(self, kind, name, owner, audience):
        check_name(name)
        check_name(owner)
        if audience is not None and not is_names(audience, MOST_IN_AUDIENCE):
            raise InvalidAudience(audience)
        self.kind = kind
        self.name = name
        self.owner = owner
        self._audience = None
        if audience is not None:
            self._audience = sorted([str(admitted) for admitted in audience])

    @property
    def audience(self):
        if self._audience is None:
            return None
        return list(self._audience)

    def rights(self):
        return rights_of(self.kind)

    def admits(self, taker):
        check_taker(taker)
        return self._audience is None or taker in self._audience

    def same_head(self, other):
        return (self.kind == other.kind and self.name == other.name
                and self.owner == other.owner and self._audience == other._audience)

    def audience_words(self):
        if self._audience is None:
            return []
        return ["audience"] + self._audience

    def __eq__(self, other):
        return isinstance(other, Thing) and self.same_head(other)

    def __str__(self):
        words = [self.kind, self.name, self.owner] + self.audience_words()
        return " ".join(words)


class Role(Thing):
    """A role, which holds rights and owns things."""

    def __init__(self, name, owner, *, audience=None):
        Thing.__init__(self, "role", name, owner, audience)

    def rights(self):
        return super().rights()

    def admits(self, taker):
        return super().admits(taker)

    def __eq__(self, other):
        return isinstance(other, Role) and self.same_head(other)


class Table(Thing):
    """A table, which is read and written."""

    def __init__(self, name, owner, *, audience=None):
        Thing.__init__(self, "table", name, owner, audience)

    def rights(self):
        return super().rights()

    def admits(self, taker):
        return super().admits(taker)

    def __eq__(self, other):
        return isinstance(other, Table) and self.same_head(other)


class Function(Thing):
    """A function, whose body of deeds runs as its owner or as its caller."""

    def __init__(self, name, owner, *, audience=None, mode="owner", body=()):
        Thing.__init__(self, "function", name, owner, audience)
        if mode not in MODES:
            raise InvalidMode(mode)
        if not is_body(body):
            raise InvalidBody(body)
        self.mode = mode
        self._body = list(body)

    def rights(self):
        return super().rights()

    def admits(self, taker):
        return super().admits(taker)

    def body(self):
        return list(self._body)

    def __len__(self):
        return len(self._body)

    def __eq__(self, other):
        return (isinstance(other, Function) and self.same_head(other)
                and self.mode == other.mode and self._body == other._body)

    def __str__(self):
        words = ["function", self.name, self.owner, self.mode] + self.audience_words()
        if len(self._body) > 0:
            words.append(":")
            words.append(" ; ".join([str(deed) for deed in self._body]))
        return " ".join(words)


class Make(Deed):
    """Makes a thing."""

    def __init__(self, thing):
        if not isinstance(thing, (Table, Function)):
            raise InvalidThing(thing)
        self.thing = thing

    def __eq__(self, other):
        return isinstance(other, Make) and self.thing == other.thing

    def __str__(self):
        return f"make {self.thing}"


def is_body(value):
    if not is_list(value) or len(value) > MOST_IN_BODY:
        return False
    return all([isinstance(deed, (Give, Call)) for deed in value])
