"""Which teams reach a goal, which grants keep a team from it, and data that decides all cases."""

from rolereach.access import check_team
from rolereach.errors import InvalidGrants, InvalidTeam, Mismatch, TooMany
from rolereach.extents import all_rounds, check_goal
from rolereach.names import is_list, is_number
from rolereach.plans import answer, can_reach, check_task, is_never, is_plan, reaches
from rolereach.standing import without
from rolereach.systems import check_system

MOST_LOGINS = 5
MOST_REVOKED = 5
MOST_GRANTS = 60


def index_lists(count):
    """All lists of indices below the count, ascending, in the order in which Python compares lists."""
    found = [[]]
    for index in reversed(range(count)):
        found = [[]] + [[index] + rest for rest in found] + found[1:]
    return found


def is_within(one, other):
    return all([item in other for item in one])


def smallest_and_largest(count, test):
    """The smallest lists of indices that pass a test, and the largest ones that do not.

    A list that contains one that passes is known to pass, too.
    """
    if not test(list(range(count))):
        return ([], [list(range(count))])
    lists = index_lists(count)
    smallest = []
    for size in range(count + 1):
        new = [one for one in lists if len(one) == size and not any([is_within(other, one) for other in smallest])]
        smallest = smallest + [one for one in new if test(one)]
    failing = [one for one in lists if not any([is_within(other, one) for other in smallest])]
    largest = [one for one in failing if not any([one != other and is_within(one, other) for other in failing])]
    return ([one for one in lists if one in smallest], largest)


def chosen(items, indices):
    return [items[index] for index in indices]


def are_papers(value):
    """Whether a value, any value, is a tuple of two lists of pairs."""
    if not isinstance(value, tuple) or len(value) != 2 or not is_list(value[0]) or not is_list(value[1]):
        return False
    return all([isinstance(row, tuple) and len(row) == 2 for part in value for row in part])


def decide_all(lists, first, second):
    """Whether each list contains one that a pair of the first list begins with, or is within one of the second."""
    return all([any([is_within(part, one) for part, _ in first]) or any([is_within(one, part) for part, _ in second])
                for one in lists])


def check_logins(system, logins):
    check_team(system, logins)
    if len(logins) > MOST_LOGINS:
        raise InvalidTeam(logins)


def check_login_task(system, logins, goal):
    check_system(system)
    check_logins(system, logins)
    check_goal(system, goal)


def team_papers(system, logins, goal):
    check_login_task(system, logins, goal)
    reaching, others = smallest_and_largest(
        len(logins), lambda indices: can_reach(system, chosen(logins, indices), goal))
    return (team_rows(system, logins, goal, reaching), team_rows(system, logins, goal, others))


def team_rows(system, logins, goal, lists):
    """For each of these teams its plan, or the extent that shows that it has none."""
    teams = [chosen(logins, indices) for indices in lists]
    return [(team, answer(system, team, goal)[1]) for team in teams]


def is_team_of(system, logins, value):
    return system.catalog.are_roles(value) and is_within(value, logins)


def is_team_papers(system, logins, goal, value):
    check_login_task(system, logins, goal)
    if not are_papers(value):
        return False
    plans, extents = value
    if not all([is_team_of(system, logins, team) for team, _ in list(plans) + list(extents)]):
        return False
    if not all([is_plan(system, team, goal, plan) for team, plan in plans]):
        return False
    if not all([is_never(system, team, goal, extent) for team, extent in extents]):
        return False
    lists = [chosen(logins, indices) for indices in index_lists(len(logins))]
    return decide_all(lists, plans, extents)


def helpers(system, team, goal):
    check_task(system, team, goal)
    return [role for role in system.names("role") if role not in team and can_reach(system, list(team) + [role], goal)]


def check_revoked(system, grants):
    if not is_list(grants) or len(grants) > MOST_REVOKED or not all([system.has_grant(item) for item in grants]):
        raise InvalidGrants(grants)
    if len({grant.key() for grant in grants}) < len(grants):
        raise InvalidGrants(grants)


def after_revoking(system, grants, indices):
    return without(system, chosen(grants, indices))[0]


def cut_papers(system, team, goal, grants):
    check_task(system, team, goal)
    check_revoked(system, grants)
    cuts, others = smallest_and_largest(
        len(grants), lambda indices: not can_reach(after_revoking(system, grants, indices), team, goal))
    return (cut_rows(system, team, goal, grants, cuts), cut_rows(system, team, goal, grants, others))


def cut_rows(system, team, goal, grants, lists):
    return [(indices, answer(after_revoking(system, grants, indices), team, goal)[1]) for indices in lists]


def are_indices(value, count):
    if not is_list(value) or not all([is_number(item) and 0 <= item < count for item in value]):
        return False
    return len(set(value)) == len(value)


def is_cut_papers(system, team, goal, grants, value):
    check_task(system, team, goal)
    check_revoked(system, grants)
    if not are_papers(value):
        return False
    extents, plans = value
    if not all([are_indices(indices, len(grants)) for indices, _ in list(extents) + list(plans)]):
        return False
    if not all([is_never(after_revoking(system, grants, indices), team, goal, extent) for indices, extent in extents]):
        return False
    if not all([is_plan(after_revoking(system, grants, indices), team, goal, plan) for indices, plan in plans]):
        return False
    return decide_all(index_lists(len(grants)), extents, plans)


def needed(system, team, goal):
    check_task(system, team, goal)
    if len(system) > MOST_GRANTS:
        raise TooMany(len(system))
    word, plan = answer(system, team, goal)
    if word == "never":
        return None
    return [grant for grant in system.grants() if is_cut(system, team, goal, grant, plan)]


def is_cut(system, team, goal, grant, plan):
    after = without(system, [grant])[0]
    # Most grants do not matter for the plan, which is soon seen.
    return not reaches(after, team, goal, plan) and not can_reach(after, team, goal)


def parting_team(one, other, logins):
    check_system(one)
    check_system(other)
    if not one.same_things(other):
        raise Mismatch(other)
    check_logins(one, logins)
    # Systems that reach the same by a team do so by each greater one: the list asked for is a largest one.
    _, differing = smallest_and_largest(len(logins), lambda indices: reach_alike(one, other, chosen(logins, indices)))
    for size in reversed(range(len(logins) + 1)):
        for indices in differing:
            if len(indices) == size:
                return chosen(logins, indices)
    return None


def reach_alike(one, other, team):
    return all_rounds(one, team).last().is_same(all_rounds(other, team).last())
