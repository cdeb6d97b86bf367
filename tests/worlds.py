"""Systems for the tests, and plain readings of the document to compare the program with."""

from rolereach.grants import Grant
from rolereach.systems import System
from rolereach.things import Function, Role, Table

RIGHTS = ["inherit", "act", "read", "write", "call"]
RIGHTS_OF = {"role": ["inherit", "act"], "table": ["read", "write"], "function": ["call"]}


class Dice:
    """Numbers that are the same in each run."""

    def __init__(self, seed):
        self.state = seed * 7919 + 17

    def below(self, limit):
        self.state = (self.state * 6364136223846793005 + 1442695040888963407) % 2 ** 64
        return (self.state >> 33) % limit

    def pick(self, items):
        return items[self.below(len(items))]


def given(text):
    """The grants of a text such as "dba ann read pay option, ann bob read pay"."""
    grants = []
    for line in text.split(", ") if text else []:
        words = line.split(" ")
        grants.append(Grant(*words[:4], option=words[4:] == ["option"]))
    return grants


def office(text=""):
    """A small system: four roles, of which dba owns all, two tables and a function."""
    things = [Role(name, "dba") for name in ["dba", "ann", "bob", "eve"]]
    things = things + [Table("pay", "dba"), Table("key", "bob", audience=["ann", "eve"]), Function("run", "dba")]
    return System(things, given(text))


def random_things(dice):
    roles = ["cy", "al", "alb", "dba", "bo"][:2 + dice.below(4)]
    things = [Role(name, dice.pick(roles), audience=audience(dice, roles)) for name in roles]
    things.append(Table("pay", dice.pick(roles), audience=audience(dice, roles)))
    things.append(Function("run", dice.pick(roles), audience=audience(dice, roles)))
    return things


def audience(dice, roles):
    if dice.below(3) > 0:
        return None
    return [role for role in roles if dice.below(3) > 0]


def possible_grants(things):
    """All grants, without their options, that name roles, things, rights and takers that go together."""
    roles = [thing.name for thing in things if thing.kind == "role"]
    return [Grant(giver, taker, right, thing.name)
            for thing in things for right in RIGHTS_OF[thing.kind] for giver in roles for taker in roles + ["public"]
            if taker != giver and thing.admits(taker)]


def random_grants(dice, things, many):
    """Distinct grants, which need not stand, in no order."""
    found = {}
    possible = possible_grants(things)
    for _ in range(many if possible else 0):
        grant = dice.pick(possible)
        found[grant.key()] = grant.with_option(grant.taker != "public" and dice.below(4) > 0)
    return list(found.values())


def random_system(seed, many=12):
    dice = Dice(seed)
    things = random_things(dice)
    return System(things, plain_standing(things, random_grants(dice, things, many)))


def random_case(seed, many=12):
    """A system, and grants for its things that need not be its own and need not stand."""
    dice = Dice(seed)
    things = random_things(dice)
    return System(things), random_grants(dice, things, many)


def owner_in(things, name):
    return [thing.owner for thing in things if thing.name == name][0]


def plain_ranks(things, grants):
    """Tuples (grant, rank) of the grants that stand, found round by round as [2] and [52] say."""
    rows = [(grant, 0) for grant in grants if owner_in(things, grant.thing) == grant.giver]
    for rank in range(1, len(grants) + 1):
        last = [grant for grant, number in rows if number == rank - 1]
        done = [grant for grant, _ in rows]
        rows = rows + [(grant, rank) for grant in grants
                       if grant not in done and any(supports(one, grant) for one in last)]
    return rows


def supports(one, other):
    return one.option and (one.taker, one.right, one.thing) == (other.giver, other.right, other.thing)


def plain_standing(things, grants):
    return [grant for grant, _ in plain_ranks(things, grants)]


def plain_holds(system, role, right, thing, option=False):
    if system.owner_of(thing) == role:
        return True
    return any(grant.right == right and grant.thing == thing and (grant.option or not option)
               and (grant.taker == role or (grant.taker == "public" and not option)) for grant in system.grants())


def plain_inherited(system, role):
    found = [role]
    for _ in range(9):
        found = found + [other for other in system.names("role") if other not in found
                         and any(plain_holds(system, one, "inherit", other) for one in found)]
    return found


def plain_has(system, role, right, thing):
    return any(plain_holds(system, one, right, thing) for one in plain_inherited(system, role))


def questions(system):
    """Each role with each right on each thing that the right belongs to."""
    return [(role, right, thing.name) for role in system.names("role") for thing in system.things()
            for right in RIGHTS_OF[thing.kind]]


def full_things():
    """The most things that a system may have: eight roles, six tables and six functions."""
    roles = [Role(name, "a") for name in "abcdefgh"]
    tables = [Table(name, "a") for name in ["ta", "tb", "tc", "td", "te", "tf"]]
    functions = [Function(name, "a") for name in ["fa", "fb", "fc", "fd", "fe", "ff"]]
    return roles + tables + functions


def full_system():
    """The most grants that a system may have: each role gives each right on each thing to all others."""
    things = full_things()
    return System(things, [grant.with_option(grant.taker != "public") for grant in possible_grants(things)])
