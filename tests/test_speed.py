"""Questions of the last stages are answered in time: great systems in seconds, small ones in milliseconds."""

import time
import unittest

from rolereach.extents import is_closed, rounds
from rolereach.grants import Grant
from rolereach.plans import can_ever, first_round, is_lean
from rolereach.systems import System
from rolereach.teams import cut_papers, helpers, is_cut_papers, is_team_papers, needed, parting_team, team_papers
from rolereach.things import Call, Function, Give, Role, Table
from tests.worlds import Dice, RIGHTS_OF


def office_of(roles, tables, functions, grants, seed):
    """A system of so many things, in which functions give and call at random."""
    dice = Dice(seed)
    names = list("abcdefgh")[:roles]
    things = [Role(name, dice.pick(names[:3])) for name in names]
    things += [Table("t" + name, dice.pick(names)) for name in "abcdef"[:tables]]
    for count, name in enumerate("abcdef"[:functions]):
        body = [gift(dice, things, names) for _ in range(2 + dice.below(2))]
        if count > 0 and dice.below(2) == 0:
            body.append(Call("f" + "abcdef"[dice.below(count)]))
        things.append(Function("f" + name, dice.pick(names[:2]), body=body))
    system = System(things)
    while len(system) < grants:
        thing = dice.pick(things)
        taker = dice.pick(names)
        if taker != thing.owner:
            right = dice.pick(RIGHTS_OF[thing.kind])
            system = system.with_grant(Grant(thing.owner, taker, right, thing.name, option=dice.below(3) == 0))
    return system


def gift(dice, things, names):
    thing = dice.pick(things)
    taker = dice.pick(names + ["caller"] * 6)
    return Give(dice.pick(RIGHTS_OF[thing.kind]), thing.name, taker, option=dice.below(2) == 0)


def ask_all(system, goal):
    """Asks each question once, and returns how long that takes."""
    roles = system.names("role")
    team, logins, grants = roles[-2:], roles[-5:], system.grants()[:5]
    start = time.perf_counter()
    is_closed(system, team, rounds(system, team)[-1])
    word, plan = can_ever(system, team, goal)
    if word == "plan":
        is_lean(system, team, goal, plan)
    first_round(system, team, goal)
    is_team_papers(system, logins, goal, team_papers(system, logins, goal))
    is_cut_papers(system, team, goal, grants, cut_papers(system, team, goal, grants))
    helpers(system, team, goal)
    if len(system) <= 60:
        needed(system, team, goal)
    parting_team(system, system.with_grant(Grant("a", roles[-1], "read", "tz")), logins)
    return time.perf_counter() - start


def with_a_table_of_a(system):
    return System(system.things() + [Table("tz", "a")], system.grants())


class SpeedTest(unittest.TestCase):
    def test_great_systems(self):
        for grants in [20, 60, 150]:
            for seed in range(3):
                system = with_a_table_of_a(office_of(8, 5, 6, grants, seed))
                for goal in [("use", "write", "ta"), ("act", "a"), ("option", "h", "call", "ff")]:
                    self.assertLess(ask_all(system, goal), 3)

    def test_small_systems(self):
        times = []
        for seed in range(10):
            system = with_a_table_of_a(office_of(6, 2, 3, 10, seed))
            for goal in [("use", "write", "ta"), ("act", "a"), ("has", "f", "read", "tb")]:
                times.append(ask_all(system, goal))
        # All questions together, on a machine that may be busy.
        self.assertLess(sum(times) / len(times), 0.3)


if __name__ == "__main__":
    unittest.main()
