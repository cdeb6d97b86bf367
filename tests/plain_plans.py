"""A plain reading of plans [112] to [114], by sessions, and steps to try."""

from rolereach.errors import MissingError, RoleError, StateError
from rolereach.grants import Grant
from rolereach.plans import Step
from rolereach.running import do
from rolereach.servers import Server
from rolereach.systems import System
from rolereach.things import Call, Function, Give, Role, Table
from tests.plain_deeds import ROLES, give
from tests.plain_extents import full_roles, plain_begin, plain_meets
from tests.worlds import RIGHTS_OF

ERRORS = (RoleError, MissingError, StateError)


def plain_run(system, team, plan):
    """The system after a plan; or the index of the first step that is not possible, and the error of its session."""
    server = Server(system)
    for index, step in enumerate(plan):
        path = step.path()
        try:
            if path[0] not in team:
                return index, None
            session = server.session(path[0])
            for role in path[1:]:
                session.act_as(role)
            session.perform(step.deed)
        except ERRORS as error:
            return index, error
    return server.system


def plain_is_plan(system, team, goal, plan):
    after = plain_run(system, team, plan)
    return not isinstance(after, tuple) and plain_meets(after, plain_begin(after, team), goal)


def plain_is_lean(system, team, goal, plan):
    return plain_is_plan(system, team, goal, plan) and not any(
        plain_is_plan(system, team, goal, plan[:at] + plan[at + 1:]) for at in range(len(plan)))


def all_deeds(system):
    """Each Give and each Call for the things of the system."""
    deeds = [Call(name) for name in system.names("function")]
    for thing in system.things():
        for right in RIGHTS_OF[thing.kind]:
            deeds += [Give(right, thing.name, taker, option=True) for taker in system.names("role")]
            deeds += [Give(right, thing.name, taker) for taker in system.names("role") + ["public"]]
    return deeds


def after_everything(system, team):
    """The system after the team did each deed again and again, until nothing changes."""
    while True:
        before = system
        roles, _ = plain_begin(system, team)
        for role in sorted(roles):
            for deed in all_deeds(system):
                try:
                    system = do(system, role, deed)
                except ERRORS:
                    pass
        if system == before:
            return system


def all_steps(system, team):
    """Each step by which the team may do something at once."""
    levels = plain_begin(system, team)[1]
    paths = [[login] for login in team]
    for path in paths:
        paths += [path + [other] for other in sorted(full_roles(system, levels, [path[-1]]))
                  if other not in path and len(path) < 3]
    return [Step(path, deed) for path in paths for deed in all_deeds(system)]


def some_step(dice, system, team):
    """A step that is often possible: its login is often in the team, and its role often may give."""
    login = dice.pick(team) if team and dice.below(6) > 0 else dice.pick(ROLES)
    others = [role for role in ROLES + ["zed"] if role != login]
    path = [login] + ([dice.pick(others)] if dice.below(3) == 0 else [])
    if dice.below(3) == 0:
        return Step(path, Call(dice.pick(["f", "g", "h", "zed"])))
    own = [thing for thing in system.things() if thing.owner == path[-1]]
    return Step(path, give(dice, own if own and dice.below(3) > 0 else system.things(), ["public", "caller"]))


def quest(dice):
    """A system in which b gets from one function to the next one, with what each gives, and at the end reads t.

    a owns all things. A function gives its caller the call of the next one, or a role that has it, to act as or to
    inherit, or gives it to c, as which b can act. The last one gives t to c, which may give it to b.
    """
    names = ["fa", "fb", "fc", "fd", "fe", "ff"]
    things = [Role(role, "a") for role in "abcdeh"] + [Table("t", "a")]
    grants = [Grant("a", "b", "call", "fa"), Grant("a", "b", "act", "c")]
    helpers = ["d", "e", "h"]
    for name, following in zip(names, names[1:]):
        choice = dice.below(4) if helpers else 3 * dice.below(2)
        if choice == 0:
            body = [Give("call", following, "caller")]
        elif choice == 3:
            body = [Give("call", following, "c", option=True)]
        else:
            helper = helpers.pop()
            body = [Give(["inherit", "act"][choice - 1], helper, "b")]
            grants.append(Grant("a", helper, "call", following))
        things.append(Function(name, "a", body=body))
    things.append(Function("ff", "a", body=[Give("read", "t", "c", option=True)]))
    return System(things, grants)
