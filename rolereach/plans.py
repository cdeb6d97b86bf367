"""Plans: the steps by which a team reaches a goal, and the extents that show that none does, or none so soon."""

from rolereach.access import check_team
from rolereach.courses import Course
from rolereach.errors import Denied, InvalidDeed, InvalidNames, InvalidPlan, InvalidTeam, MissingError, PlanFailed
from rolereach.errors import RoleError, StateError
from rolereach.extents import advanced, check_goal, extent_of, is_closed_scope, scope_in
from rolereach.names import is_list, is_names
from rolereach.planning import Tracer
from rolereach.running import after_gifts
from rolereach.scopes import first_scope, full_scope, rounds_of
from rolereach.systems import check_system
from rolereach.things import Call, Give

MOST_IN_PATH = 8
MOST_STEPS = 200


class Step:
    """A deed of the last role of a path, which begins with a login."""

    def __init__(self, path, deed):
        if not is_names(path, MOST_IN_PATH) or len(path) == 0:
            raise InvalidNames(path)
        if not isinstance(deed, (Give, Call)):
            raise InvalidDeed(deed)
        self._path = list(path)
        self.role = path[-1]
        self.deed = deed

    def path(self):
        return list(self._path)

    def __eq__(self, other):
        return isinstance(other, Step) and self._path == other._path and self.deed == other.deed


def are_steps(value):
    return is_list(value) and len(value) <= MOST_STEPS and all([isinstance(item, Step) for item in value])


def run_plan(system, team, plan):
    check_system(system)
    check_team(system, team)
    if not are_steps(plan):
        raise InvalidPlan(plan)
    course = Course(system.catalog, system.holding)
    for index, step in enumerate(plan):
        try:
            take_step(course, team, step)
        except (RoleError, MissingError, StateError) as error:
            raise PlanFailed(index) from error
    return after_gifts(system, course.gifts)


def take_step(course, team, step):
    path = step.path()
    for role in path:
        course.catalog.check_role(role)
    if path[0] not in team:
        raise InvalidTeam(team)
    for role, other in zip(path, path[1:]):
        if not course.holding.has(role, "act", other):
            raise Denied(role, "act", other)
    course.run(step.role, step.role, step.deed)


def reaches(system, team, goal, steps):
    """Whether these steps are possible one after the other, and the goal is met behind them."""
    course = Course(system.catalog, system.holding)
    try:
        for step in steps:
            take_step(course, team, step)
    except (RoleError, MissingError, StateError):
        return False
    return full_scope(course.holding, system.catalog.roster.mask_of(team)).meets(goal)


def without_one(steps, index):
    return steps[:index] + steps[index + 1:]


def lean(system, team, goal, steps):
    """What is left of a plan for a goal when each step that is needless is left out.

    The last step comes first: whether a step is needless does not depend on whether an earlier one
    is left out later, since with more steps before it no less is possible.
    """
    left = steps
    for index in reversed(range(len(steps))):
        others = without_one(left, index)
        if reaches(system, team, goal, others):
            left = others
    return left


def check_task(system, team, goal):
    check_system(system)
    check_team(system, team)
    check_goal(system, goal)


def is_plan(system, team, goal, value):
    check_task(system, team, goal)
    return are_steps(value) and reaches(system, team, goal, value)


def is_lean(system, team, goal, value):
    check_task(system, team, goal)
    if not are_steps(value) or not reaches(system, team, goal, value):
        return False
    return not any([reaches(system, team, goal, without_one(value, index)) for index in range(len(value))])


def can_ever(system, team, goal):
    check_task(system, team, goal)
    return answer(system, team, goal)


def answer(system, team, goal):
    found = rounds_of(system, team)
    if not found.seek(goal):
        return ("never", extent_of(found.last()))
    steps = [Step(path, deed) for path, deed in Tracer(found, team).moves(goal)]
    return ("plan", lean(system, team, goal, steps))


def can_reach(system, team, goal):
    return rounds_of(system, team).seek(goal)


def is_never(system, team, goal, value):
    check_task(system, team, goal)
    scope = scope_in(system, value)
    return scope is not None and not scope.meets(goal) and is_closed_scope(system, team, scope)


def first_round(system, team, goal):
    check_task(system, team, goal)
    found = rounds_of(system, team)
    if not found.seek(goal):
        return None
    return len(found.scopes) - 1


def is_too_early(system, team, goal, extents):
    check_task(system, team, goal)
    if not is_list(extents) or len(extents) == 0:
        return False
    scopes = [scope_in(system, item) for item in extents]
    if not all([scope is not None and scope.is_full() for scope in scopes]):
        return False
    if not scopes[0].contains(first_scope(system, team)) or scopes[-1].meets(goal):
        return False
    return all([later.contains(advanced(system, scope)) for scope, later in zip(scopes, scopes[1:])])
