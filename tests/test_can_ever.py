"""What a team can ever reach, how soon, and data that shows it [114], [115]."""

import itertools
import unittest

from rolereach.errors import InvalidGoal, InvalidSystem, InvalidTeam, MissingError, RoleError, StateError
from rolereach.extents import Extent, advance, begin, is_closed, meets, reach, rounds
from rolereach.grants import Grant
from rolereach.plans import Step, can_ever, first_round, is_lean, is_never, is_plan, is_too_early, run_plan
from rolereach.servers import Server
from rolereach.systems import System
from rolereach.things import Call, Function, Give, Make, Preset, Role, Table, Take
from tests.plain_deeds import ROLES, shop, some_deed
from tests.plain_extents import all_goals, made, plain, plain_begin, plain_meets, some_team, with_less, with_more
from tests.plain_plans import after_everything, all_steps, plain_is_lean, plain_is_plan, plain_run, quest
from tests.test_reaching import chain, plain_closed
from tests.values import any_values, expect, expect_first
from tests.worlds import Dice, full_system, given, office


class PlainReadingTest(unittest.TestCase):
    def test_all_that_deeds_bring_about(self):
        for seed in range(60):
            dice = Dice(seed)
            system, team = shop(dice, 6, 0), some_team(dice)
            after = after_everything(system, team)
            self.assertEqual(plain(reach(system, team)), plain_begin(after, team))

    def test_plans_and_extents(self):
        counts = {"plan": 0, "never": 0}
        for seed in range(60):
            dice = Dice(seed)
            system, team = shop(dice, 6, 0), some_team(dice)
            end = plain_begin(after_everything(system, team), team)
            for goal in all_goals(system)[seed % 3::3]:
                word, found = can_ever(system, team, goal)
                self.assertEqual(word, "plan" if plain_meets(system, end, goal) else "never")
                counts[word] += 1
                if word == "plan":
                    self.assertTrue(plain_is_lean(system, team, goal, found))
                    self.assertTrue(is_plan(system, team, goal, found) and is_lean(system, team, goal, found))
                else:
                    self.assertTrue(plain_closed(system, team, found))
                    self.assertFalse(plain_meets(system, plain(found), goal))
                    self.assertTrue(is_never(system, team, goal, found))
        self.assertGreater(min(counts.values()), 200)

    def test_long_plans(self):
        lengths = []
        for seed in range(60):
            system = quest(Dice(seed))
            for goal in [("has", "b", "read", "t"), ("use", "read", "t")]:
                word, plan = can_ever(system, ["b"], goal)
                self.assertEqual(word, "plan")
                self.assertTrue(is_lean(system, ["b"], goal, plan) and plain_is_lean(system, ["b"], goal, plan))
                lengths.append(len(plan))
        self.assertGreater(max(lengths), 6)
        self.assertGreater(min(lengths), 3)

    def test_all_lists_of_steps(self):
        for seed in range(6):
            dice = Dice(seed)
            system = tiny(dice)
            for team in [["a"], ["b"], ["a", "b"]]:
                steps = all_steps(system, team)
                lists = [list(plan) for count in range(3) for plan in itertools.product(steps, repeat=count)]
                met = {}
                for plan in lists:
                    after = plain_run(system, team, plan)
                    if not isinstance(after, tuple):
                        for goal in all_goals(system):
                            if goal not in met and plain_meets(after, plain_begin(after, team), goal):
                                met[goal] = plan
                for goal in all_goals(system):
                    word, found = can_ever(system, team, goal)
                    if goal in met:
                        self.assertEqual(word, "plan")
                        self.assertTrue(is_plan(system, team, goal, met[goal]))
                    if word == "plan" and len(found) < 3:
                        self.assertIn(goal, met)

    def test_first_rounds(self):
        for seed in range(60):
            dice = Dice(seed)
            system, team = shop(dice, dice.below(8)), some_team(dice)
            extents = rounds(system, team)
            for goal in all_goals(system)[seed % 3::3]:
                numbers = [at for at, extent in enumerate(extents) if meets(system, extent, goal)]
                number = first_round(system, team, goal)
                self.assertEqual(number, numbers[0] if numbers else None)
                for count in range(1, len(extents) + 1):
                    self.assertEqual(is_too_early(system, team, goal, extents[:count]),
                                     number is None or count <= number)


def tiny(dice):
    """Two roles, a table and a function."""
    things = [Role("a", "a"), Role("b", dice.pick(["a", "b"])), Table("t", "b", audience=dice.pick([None, ["a"]]))]
    body = [dice.pick([Give("read", "t", "caller"), Give("act", "b", "caller"), Give("write", "t", "a", option=True)])]
    things.append(Function("f", "b", mode=dice.pick(["owner", "caller"]), body=body))
    return System(things, [Grant("b", "a", "call", "f")] if dice.below(2) == 0 else [])


class CanEverTest(unittest.TestCase):
    def test_a_goal_that_is_met_at_once(self):
        for team, goal in [(["ann"], ("act", "ann")), ([], ("has", "dba", "read", "pay")), (["bob"], ("use", "read",
                                                                                                      "key"))]:
            self.assertEqual(can_ever(system=office(), team=team, goal=goal), ("plan", []))

    def test_no_team(self):
        self.assertEqual(can_ever(office(), [], ("has", "ann", "read", "pay")), ("never", begin(office(), [])))

    def test_a_chain_of_functions(self):
        system = chain(["f", "g", "h", "k"])
        word, plan = can_ever(system, ["ann"], ("has", "ann", "read", "pay"))
        self.assertEqual([word, plan], ["plan", [Step(["ann"], Call(name)) for name in ["f", "g", "h", "k"]]])
        self.assertEqual(first_round(system, ["ann"], ("has", "ann", "read", "pay")), 4)
        self.assertEqual(can_ever(system, ["bob"], ("has", "bob", "read", "pay"))[0], "never")

    def test_paths_of_plans(self):
        system = office("dba ann act bob, dba bob inherit eve, dba eve act dba")
        word, plan = can_ever(system, ("ann",), ("has", "ann", "read", "pay"))
        self.assertEqual([word, len(plan), plan[0].path()], ["plan", 1, ["ann", "bob", "dba"]])

    def test_what_a_body_gives_is_not_asked_for_before(self):
        own = [Function("g", "dba", mode="caller", body=[Give("write", "pay", "bob")]),
               Function("h", "dba", mode="owner", body=[Give("write", "pay", "ann", option=True),
                                                        Give("call", "g", "public"), Call("g")])]
        system = System([Role("dba", "dba"), Role("ann", "dba"), Role("bob", "dba"), Table("pay", "dba")] + own,
                        given("dba ann call h"))
        self.assertEqual(can_ever(system, ["ann"], ("has", "bob", "write", "pay")),
                         ("plan", [Step(["ann"], Call("h"))]))

    def test_a_body_that_uses_what_an_earlier_step_gives(self):
        things = [Role("dba", "dba"), Role("ann", "dba"), Role("bob", "bob"), Table("pay", "dba"),
                  Function("f", "dba", body=[Give("inherit", "bob", "caller"), Give("read", "pay", "caller")])]
        system = System(things, given("dba ann call f"))
        self.assertEqual(can_ever(system, ["ann"], ("has", "ann", "read", "pay"))[0], "never")
        word, plan = can_ever(system, ["ann", "bob"], ("has", "ann", "read", "pay"))
        self.assertEqual([word, [str(step.deed) for step in plan]],
                         ["plan", ["give inherit bob dba option", "call f"]])

    def test_what_is_returned_is_new(self):
        system = chain(["f", "g"])
        goal = ("has", "ann", "read", "pay")
        can_ever(system, ["ann"], goal)[1].clear()
        self.assertEqual(len(can_ever(system, ["ann"], goal)[1]), 2)

    def test_the_greatest_system(self):
        system = full_system()
        for goal in [("act", "h"), ("option", "b", "read", "ta"), ("use", "call", "ff")]:
            word, plan = can_ever(system, ["b"], goal)
            self.assertTrue(word == "plan" and is_lean(system, ["b"], goal, plan))

    def test_two_goals_together(self):
        # Plans can be put together in any order that keeps the order within each plan.
        for seed in range(40):
            dice = Dice(seed)
            system, team = shop(dice, 6, 0), some_team(dice)
            goals = [goal for goal in all_goals(system) if can_ever(system, team, goal)[0] == "plan"]
            one, other = dice.pick(goals), dice.pick(goals)
            first, second = can_ever(system, team, one)[1], can_ever(system, team, other)[1]
            mixed, rest = [], [list(first), list(second)]
            while rest[0] or rest[1]:
                part = dice.pick([part for part in rest if part])
                mixed.append(part.pop(0))
            for plan in [first + second, second + first, mixed]:
                self.assertTrue(is_plan(system, team, one, plan) and is_plan(system, team, other, plan))


class WhateverItDoesTest(unittest.TestCase):
    def test_no_deed_leads_out_of_the_closed_extent(self):
        for seed in range(100):
            dice = Dice(seed)
            system, team = shop(dice, 8, 2), some_team(dice) or ["ann"]
            end, server = reach(system, team), Server(system)
            for _ in range(25):
                roles = begin(server.system, team).roles()
                deed = self.deed_of(dice, server.system)
                try:
                    server.session(dice.pick(roles)).perform(deed)
                except (RoleError, MissingError, StateError):
                    # Only roles that the team can act as do anything, and much of it is refused.
                    continue
            now = begin(server.system, team)
            old = Extent(now.roles(), {spot: level for spot,
                                       level in now.levels().items() if spot[2] in system.names()})
            self.assertTrue(old <= end)

    def deed_of(self, dice, system):
        if dice.below(4) > 0:
            return some_deed(dice, system)
        if dice.below(3) == 0:
            return Preset("function", "call", dice.pick(ROLES))
        body = [Give(dice.pick(["act", "inherit"]), dice.pick(ROLES), "caller", option=True), Give("read", "pay",
                                                                                                   "public")]
        return Make(Function(dice.pick(["x", "y", "z"]), dice.pick(ROLES), body=body[:1 + dice.below(2)],
                             mode=dice.pick(["owner", "caller"])))

    def test_nor_do_revocations(self):
        system = office("dba ann read pay option, ann bob read pay, dba bob act ann")
        end = reach(system, ["bob"])
        server = Server(system)
        server.session("bob").act_as("ann")
        server.session("ann").perform(Take("read", "pay", "bob"))
        self.assertTrue(begin(server.system, ["bob"]) <= end)
        self.assertEqual(reach(server.system, ["bob"]), end)


class IsNeverTest(unittest.TestCase):
    def test_closed_extents_without_the_goal(self):
        counts = {True: 0, False: 0}
        for seed in range(15):
            dice = Dice(seed)
            system, team = shop(dice), some_team(dice)
            end = plain(reach(system, team))
            extents = [end] + with_less(dice, end)[:6] + with_more(dice, system, end)[:12]
            for goal in all_goals(system)[seed % 9::9]:
                for extent in extents:
                    expected = plain_closed(system, team, made(extent)) and not plain_meets(system, extent, goal)
                    self.assertEqual(is_never(system, team, goal, made(extent)), expected)
                    counts[expected] += 1
        self.assertGreater(min(counts.values()), 50)

    def test_any_value(self):
        system, goal = office(), ("has", "ann", "read", "pay")
        self.assertTrue(is_never(value=reach(system, ["ann"]), goal=goal, team=["ann"], system=system))
        for value in any_values() + [Extent(["ann", "zed"], {}), [reach(system, ["ann"])], Extent([], {})]:
            self.assertIs(is_never(system, ["ann"], goal, value), False)


class IsTooEarlyTest(unittest.TestCase):
    def setUp(self):
        self.system = chain(["f", "g"])
        self.goal = ("has", "ann", "read", "pay")
        self.extents = rounds(self.system, ["ann"])

    def early(self, extents, team=("ann",)):
        return is_too_early(extents=extents, goal=self.goal, team=list(team), system=self.system)

    def test_lists(self):
        first, second, third = self.extents
        for extents in [[first], (first, second), [first, second]]:
            self.assertIs(self.early(extents), True)
        for extents in [[], (), self.extents, [second, first], [first, first], [first, second, second], [third], first,
                        [first, second, third, third]]:
            self.assertIs(self.early(extents), False)
        # Greater ones show it as well, as long as they are full and do not meet the goal.
        greater = second | Extent(["bob"], {("bob", "read", "pay"): 2})
        for extents in [[greater], [first, greater], [second], [second | Extent([], {("dba", "act", "bob"): 2})]]:
            self.assertIs(self.early(extents), True)
        self.assertIs(self.early([first, first]), False)
        self.assertIs(self.early([first], ["ann", "bob"]), False)
        self.assertIs(self.early([begin(self.system, ["bob"])]), False)

    def test_never(self):
        end = reach(self.system, ["bob"])
        self.assertIsNone(first_round(self.system, ["bob"], self.goal))
        for count in [1, 2, 5]:
            self.assertIs(self.early([end] * count, ["bob"]), True)

    def test_extents_that_are_not_full_or_not_for_the_system(self):
        system = office("dba ann act bob")
        goal = ("act", "eve")
        good = begin(system, ["ann"])
        self.assertTrue(is_too_early(system, ["ann"], goal, [good]))
        for extent in [Extent(["ann"], good.levels()), Extent(["ann", "bob"], {}), good | Extent(["zed"], {}),
                       good | Extent(["dba"], {}), good | Extent([], {("zed", "act", "ann"): 1})]:
            self.assertIs(is_too_early(system, ["ann"], goal, [extent]), False)
            self.assertIs(is_too_early(system, ["ann"], goal, [good, extent]), False)

    def test_the_one_that_follows_must_contain_what_advance_returns(self):
        for seed in range(40):
            dice = Dice(seed)
            system, team = shop(dice, 4), some_team(dice)
            first = begin(system, team)
            further = advance(system, first)
            goal = dice.pick(all_goals(system))
            met = meets(system, further, goal)
            self.assertEqual(is_too_early(system, team, goal, [first, further]), not met)
            for extent in [made(extent) for extent in with_less(dice, plain(further))]:
                self.assertIs(is_too_early(system, team, goal, [first, extent]), False)

    def test_any_value(self):
        for value in any_values() + [[1], [self.extents[0], 1], [[self.extents[0]]], {0: self.extents[0]}]:
            self.assertIs(self.early(value), False)


class ArgumentsTest(unittest.TestCase):
    def test_the_first_wrong_argument_is_due(self):
        good = [office(), ["ann"], ("act", "bob")]
        for action in [can_ever, first_round, lambda *given: is_never(*given, 1), lambda *given: is_too_early(*given,
                                                                                                              1)]:
            expect_first(self, action, good, [("system", InvalidSystem, "value"), (["ann", "zed"], InvalidTeam,
                                                                                   "value"),
                                              (["act", "bob"], InvalidGoal, "value")])

    def test_any_values(self):
        for value in any_values():
            for action in [can_ever, first_round]:
                if not isinstance(value, System):
                    expect(self, InvalidSystem, "value", value, lambda: action(value, 1, 1))
                if value not in ([], (), ["ann"], ("ann", "bob")):
                    expect(self, InvalidTeam, "value", value, lambda: action(office(), value, 1))
                expect(self, InvalidGoal, "value", value, lambda: action(office(), [], value))

    def test_the_closed_extent_is_one(self):
        system = office()
        word, extent = can_ever(system, ["ann"], ("act", "bob"))
        self.assertEqual([word, is_closed(system, ["ann"], extent)], ["never", True])
        self.assertEqual(run_plan(system, ["ann"], can_ever(system, ["ann"], ("act", "ann"))[1]), system)
        self.assertTrue(plain_is_plan(system, ["ann"], ("act", "ann"), []))


if __name__ == "__main__":
    unittest.main()
