"""A plain reading of how deeds are done [71] to [76], to compare the program with, and deeds to try."""

from rolereach.grants import Default, Grant
from rolereach.systems import System
from rolereach.things import Call, Function, Give, Make, Preset, Role, Table, Take, Use
from tests.worlds import RIGHTS_OF, plain_has, plain_holds, plain_standing


class Refused(Exception):
    """The name and the fields of the error that is due, and what it is raised from."""

    def __init__(self, name, *fields, cause=None):
        Exception.__init__(self, name)
        self.name = name
        self.fields = fields
        self.cause = cause


def require(condition, name, *fields):
    if not condition:
        raise Refused(name, *fields)


def outcome(error):
    """What tells an error of the program from another one, with all that it was raised from."""
    fields = []
    for field in ["value", "name", "count", "role", "right", "thing", "taker", "owner", "function", "index"]:
        if hasattr(error, field):
            fields.append(getattr(error, field))
    cause = None if error.__cause__ is None else outcome(error.__cause__)
    return (type(error).__name__, fields, cause)


def refusal(refused):
    cause = None if refused.cause is None else refusal(refused.cause)
    return (refused.name, list(refused.fields), cause)


def plain_do(system, role, deed, caller=None):
    """The system after a deed, or the error that is due, raised as Refused."""
    caller = role if caller is None else caller
    doers = {Give: plain_give, Call: plain_call, Take: plain_take, Make: plain_make, Preset: plain_preset,
             Use: plain_use}
    return doers[type(deed)](system, role, deed, caller)


def kind_in(system, name):
    kinds = [thing.kind for thing in system.things() if thing.name == name]
    return kinds[0] if kinds else None


def require_spot(system, right, thing):
    require(kind_in(system, thing) is not None, "UnknownThing", thing)
    require(right in RIGHTS_OF[kind_in(system, thing)], "Mismatch", right)


def with_grants(system, grants):
    """The system with these grants, each with the option if it has it once."""
    options = {}
    for grant in system.grants() + grants:
        options[grant.key()] = options.get(grant.key(), False) or grant.option
    return System(system.things(), [Grant(*key, option=option) for key, option in options.items()], system.defaults())


def plain_give(system, role, deed, caller):
    taker = caller if deed.taker == "caller" else deed.taker
    require_spot(system, deed.right, deed.thing)
    require(taker == "public" or kind_in(system, taker) == "role", "UnknownRole", taker)
    require(plain_holds(system, role, deed.right, deed.thing, True), "Denied", role, deed.right, deed.thing)
    require(system.thing_of(deed.thing).admits(taker), "NotAdmitted", taker)
    if taker == role:
        return system
    return with_grants(system, [Grant(role, taker, deed.right, deed.thing, option=deed.option)])


def plain_call(system, role, deed, caller):
    name = deed.function
    require(kind_in(system, name) == "function", "UnknownThing", name)
    require(plain_has(system, role, "call", name), "Denied", role, "call", name)
    function = system.thing_of(name)
    for index, step in enumerate(function.body()):
        try:
            system = plain_do(system, function.owner if function.mode == "owner" else role, step, role)
        except Refused as refused:
            # In the order in which outcome looks for the fields.
            raise Refused("CallFailed", name, index, cause=refused)
    return system


def plain_take(system, role, deed, caller):
    require_spot(system, deed.right, deed.thing)
    require(deed.taker == "public" or kind_in(system, deed.taker) == "role", "UnknownRole", deed.taker)
    giver = deed.giver or role
    require(kind_in(system, giver) == "role", "UnknownRole", giver)
    owner = system.owner_of(deed.thing)
    require(role in (giver, owner), "Denied", role, deed.right, deed.thing)
    key = (giver, deed.taker, deed.right, deed.thing)
    found = [grant for grant in system.grants() if grant.key() == key]
    require(found, "NoGrant", key)
    left = [grant for grant in system.grants() if grant.key() != key]
    if deed.only_option:
        left.append(Grant(*key))
    kept = plain_standing(system.things(), left)
    kept_keys = [grant.key() for grant in kept]
    fallen = [grant for grant in system.grants() if grant.key() not in kept_keys and grant.key() != key]
    require(deed.cascade or not fallen, "Dependents", fallen)
    return System(system.things(), kept, system.defaults())


def plain_make(system, role, deed, caller):
    thing = deed.thing
    require(thing.owner == role, "NotOwner", thing.owner)
    require(kind_in(system, thing.name) is None, "NameTaken", thing.name)
    after = System(system.things() + [thing], system.grants(), system.defaults())
    mine = [default for default in system.defaults() if default.maker == role and default.kind == thing.kind]
    for default in mine:
        require(thing.admits(default.taker), "NotAdmitted", default.taker)
    return with_grants(after, [Grant(role, default.taker, default.right, thing.name, option=default.option)
                               for default in mine])


def plain_preset(system, role, deed, caller):
    require(deed.taker == "public" or kind_in(system, deed.taker) == "role", "UnknownRole", deed.taker)
    if deed.taker == role:
        return system
    options = {(one.maker, one.kind, one.right, one.taker): one.option for one in system.defaults()}
    key = (role, deed.kind, deed.right, deed.taker)
    options[key] = options.get(key, False) or deed.option
    return System(system.things(), system.grants(),
                  [Default(*parts, option=option) for parts, option in options.items()])


def plain_use(system, role, deed, caller):
    require_spot(system, deed.right, deed.thing)
    require(plain_has(system, role, deed.right, deed.thing), "Denied", role, deed.right, deed.thing)
    return system


ROLES = ["dba", "ann", "bob", "eve"]


def audience(dice):
    if dice.below(4) > 0:
        return None
    return [role for role in ROLES if dice.below(4) > 0]


def shop(dice, grants=8, defaults=2):
    """A system with functions that give and call, in random modes, and with some grants that stand."""
    things = [Role(role, dice.pick(ROLES[:2]), audience=audience(dice)) for role in ROLES]
    things.append(Table("pay", dice.pick(ROLES), audience=audience(dice)))
    for name in ["f", "g", "h"]:
        body = [step(dice, things) for _ in range(dice.below(4))]
        things.append(Function(name, dice.pick(ROLES), audience=audience(dice), body=body,
                               mode=dice.pick(["owner", "caller"])))
    system = System(things)
    for _ in range(grants):
        system = add_grant(dice, system)
    for _ in range(defaults):
        maker, taker = dice.pick(ROLES), dice.pick(ROLES + ["public"])
        if maker != taker:
            system = system.with_default(Default(maker, "table", dice.pick(["read", "write"]), taker))
    return system


def step(dice, things):
    functions = [thing.name for thing in things if thing.kind == "function"]
    if functions and dice.below(3) == 0:
        return Call(dice.pick(functions))
    return give(dice, things, ["public", "caller", "caller", "caller"])


def give(dice, things, others):
    thing = dice.pick(things)
    taker = dice.pick(ROLES + others)
    return Give(dice.pick(RIGHTS_OF[thing.kind]), thing.name, taker,
                option=taker != "public" and dice.below(2) == 0)


def add_grant(dice, system):
    """The system with a gift of a role that may give; perhaps the same one."""
    thing = dice.pick(system.things())
    right = dice.pick(RIGHTS_OF[thing.kind])
    givers = [role for role in ROLES if plain_holds(system, role, right, thing.name, True)]
    giver, taker = dice.pick(givers), dice.pick(ROLES + ["public"])
    if giver == taker or not thing.admits(taker):
        return system
    return system.with_grant(Grant(giver, taker, right, thing.name, option=taker != "public" and dice.below(3) > 0))


def some_deed(dice, system):
    """A deed that may or may not be possible in the system."""
    things = system.things()
    count = dice.below(12)
    if count < 4:
        return give(dice, things, ["public", "caller", "zed"])
    if count < 7:
        return Call(dice.pick(["f", "f", "g", "g", "h", "h", "pay", "zed"]))
    if count < 9:
        return take(dice, system)
    if count == 9:
        taker = dice.pick(ROLES + ["public", "zed"])
        return Preset("table", dice.pick(["read", "write"]), taker, option=taker != "public" and dice.below(2) == 0)
    if count == 10:
        return Use(dice.pick(["read", "write", "call", "act"]), dice.pick(["pay", "f", "ann", "zed"]))
    name = dice.pick(["pay", "new", "newer"])
    return Make(Table(name, dice.pick(ROLES), audience=dice.pick([None, None, ROLES, ["ann", "bob"], ["zed"]])))


def take(dice, system):
    option, cascade = dice.below(3) == 0, dice.below(2) == 0
    if system.grants() and dice.below(6) > 0:
        grant = dice.pick(system.grants())
        giver = dice.pick([None, grant.giver, grant.giver])
        return Take(grant.right, grant.thing, grant.taker, giver=giver, only_option=option, cascade=cascade)
    return Take(dice.pick(["read", "act", "call"]), dice.pick(["pay", "ann", "f", "zed"]), dice.pick(ROLES + ["zed"]),
                giver=dice.pick([None, "ann", "zed"]), only_option=option, cascade=cascade)
