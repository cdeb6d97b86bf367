"""Smallest teams [121], [122], helpers [123], and teams by which two systems part [126]."""

import itertools
import unittest

from rolereach.errors import InvalidGoal, InvalidSystem, InvalidTeam, Mismatch
from rolereach.extents import Extent, is_closed, meets, reach
from rolereach.plans import Step, can_ever, is_lean, is_never, is_plan
from rolereach.standing import without
from rolereach.systems import System
from rolereach.teams import helpers, is_team_papers, parting_team, team_papers
from rolereach.things import Call, Function, Give, Role, Table
from tests.plain_deeds import ROLES, shop
from tests.plain_extents import all_goals
from tests.values import any_values, expect, expect_first
from tests.worlds import Dice, full_things, given, office


def index_lists(count):
    """All lists of indices, in the order in which Python compares lists."""
    return sorted([list(part) for size in range(count + 1) for part in itertools.combinations(range(count), size)])


def plain_parts(count, test):
    """The smallest lists of indices that pass, and the largest that do not, by going through all lists."""
    lists = index_lists(count)
    passing = [set(one) for one in lists if test(one)]
    failing = [set(one) for one in lists if set(one) not in passing]
    return ([one for one in lists if set(one) in passing and not any(other < set(one) for other in passing)],
            [one for one in lists if set(one) in failing and not any(other > set(one) for other in failing)])


def chosen(items, indices):
    return [items[index] for index in indices]


def key_world():
    """Who opens key: bob with ann, or eve with both of dba's keepers."""
    things = [Role("dba", "dba"), Role("ann", "dba"), Role("bob", "dba"), Role("eve", "dba"),
              Table("key", "dba", audience=["ann", "bob"]),
              Function("open", "dba", audience=["bob"], body=[Give("write", "key", "ann")])]
    return System(things, given("dba bob call open, dba ann read key"))


class TeamPapersTest(unittest.TestCase):
    def test_all_lists_of_logins(self):
        sizes = set()
        for seed in range(50):
            dice = Dice(seed)
            system = shop(dice, 6, 0)
            logins = [ROLES, ROLES[::-1], ROLES[1:], ["eve", "ann"], []][seed % 5]
            for goal in all_goals(system)[seed % 11::11]:
                reaching, others = plain_parts(
                    len(logins), lambda part: can_ever(system, chosen(logins, part), goal)[0] == "plan")
                papers = team_papers(system, logins, goal)
                self.assertEqual([[team for team, _ in part] for part in papers],
                                 [[chosen(logins, part) for part in parts] for parts in (reaching, others)])
                self.assertTrue(all(is_lean(system, team, goal, plan) for team, plan in papers[0]))
                for team, extent in papers[1]:
                    self.assertTrue(is_closed(system, team, extent) and not meets(system, extent, goal))
                self.assertTrue(is_team_papers(system, logins, goal, papers))
                self.assertTrue(is_team_papers(system, logins[::-1], goal, papers))
                sizes.add((len(papers[0]), len(papers[1])))
        self.assertTrue({(0, 1), (1, 0), (1, 1), (2, 1), (3, 1)} <= sizes, sizes)

    def test_kinds_of_values(self):
        papers = team_papers(goal=("use", "write", "key"), logins=("eve", "bob", "ann"), system=key_world())
        self.assertEqual([type(papers), type(papers[0]), type(papers[1]), type(papers[0][0])], [tuple, list, list,
                                                                                                tuple])
        (team, plan), = papers[0]
        self.assertEqual([team, plan], [["bob", "ann"], [Step(["bob"], Call("open"))]])
        self.assertEqual([team for team, _ in papers[1]], [["eve", "bob"], ["eve", "ann"]])
        self.assertEqual(papers[1][0][1], reach(key_world(), ["eve", "bob"]))

    def test_the_order_is_that_of_the_lists_of_indices(self):
        roles = [Role("z", "z"), Role("a", "z"), Role("b", "z"), Role("c", "z"), Role("d", "z"), Table("t", "z")]
        body = [Give("write", "t", "caller")]
        things = roles + [Function("f", "z", mode="caller", body=body), Function("g", "z", mode="caller", body=body)]
        system = System(things, given("z a write t option, z public call f"))
        logins = ["c", "a", "z", "b", "d"]
        reaching, others = team_papers(system, logins, ("has", "b", "write", "t"))
        self.assertEqual([[team for team, _ in reaching], [team for team, _ in others]], [[["a"], ["z"]], [["c", "b",
                                                                                                            "d"]]])

    def test_the_empty_team(self):
        system, goal = office("dba ann read pay"), ("has", "ann", "read", "pay")
        self.assertEqual(team_papers(system, ["bob", "dba"], goal), ([([], [])], []))
        self.assertEqual(team_papers(system, [], goal), ([([], [])], []))
        extent = reach(system, [])
        self.assertEqual(team_papers(system, [], ("act", "ann")), ([], [([], extent)]))
        extent = reach(system, ["eve", "bob"])
        self.assertEqual(team_papers(system, ["eve", "bob"], ("act", "ann")), ([], [(["eve", "bob"], extent)]))

    def test_five_logins_and_six(self):
        system = System(full_things())
        papers = team_papers(system, list("bcdef"), ("act", "h"))
        self.assertEqual([len(papers[0]), [team for team, _ in papers[1]]], [0, [list("bcdef")]])
        team = list("bcdefg")
        expect(self, InvalidTeam, "value", team, lambda: team_papers(system, team, ("act", "h")))
        expect(self, InvalidTeam, "value", team, lambda: is_team_papers(system, team, ("act", "h"), papers))
        expect(self, InvalidTeam, "value", team, lambda: parting_team(system, system, team))


class IsTeamPapersTest(unittest.TestCase):
    def setUp(self):
        self.system = key_world()
        self.goal = ("use", "write", "key")
        self.plan = [Step(["bob"], Call("open"))]
        self.plans = [(["ann", "bob"], self.plan)]
        self.extents = [(team, reach(self.system, team)) for team in [["ann"], ["bob"]]]

    def holds(self, value, logins=("ann", "bob")):
        return is_team_papers(value=value, goal=self.goal, logins=list(logins), system=self.system)

    def test_papers(self):
        plans, extents = self.plans, self.extents
        good = [(plans, extents), (tuple(plans), tuple(extents)), (plans, extents[::-1]), (plans * 2, extents * 2),
                ([(("bob", "ann"), tuple(self.plan))], extents), (plans, extents + [([], reach(self.system, []))]),
                # A plan may have needless steps, and a closed extent may be greater.
                ([(["ann", "bob"], self.plan * 2)], extents),
                (plans, [(team, extent | Extent([], {("eve", "call", "open"): 1})) for team, extent in extents])]
        for value in good:
            self.assertIs(self.holds(value), True)

    def test_what_is_not_decided(self):
        plans, extents = self.plans, self.extents
        empty = reach(self.system, [])
        for value in [([], extents), (plans, extents[:1]), (plans, extents[1:]), (plans, []), ([], []),
                      (plans, [([], empty)]), ([], [([], empty)])]:
            self.assertIs(self.holds(value), False)
        self.assertIs(self.holds((plans, extents), ["ann", "bob", "eve"]), False)
        self.assertIs(self.holds(([], extents), ["ann"]), False)
        self.assertIs(self.holds(([], extents[:1]), ["ann"]), True)
        self.assertIs(self.holds(([], [([], empty)]), []), True)
        self.assertIs(self.holds(([], []), []), False)

    def test_wrong_parts(self):
        plans, extents = self.plans, self.extents
        end = reach(self.system, ["ann", "bob"])
        for value in [
                ([(["ann", "bob"], [])], extents), ([(["ann"], self.plan)], extents), ([(["ann", "bob"], 1)], extents),
                (plans, extents + [(["ann", "bob"], end)]), (plans, [(["ann"], extents[1][1]), (["bob"],
                                                                                                extents[0][1])]),
                (plans, extents + [(["eve"], reach(self.system, ["eve"]))]), (plans + [(["ann", "bob"], [])], extents),
                (plans + [(["ann", "bob", "eve"], self.plan)], extents),
                (plans + [(["ann", "bob", "bob"], self.plan)], extents), (plans + [("ann", self.plan)], extents),
                (plans + [([1], self.plan)], extents), (plans + [None], extents), (plans + [["ann", "bob"]], extents),
                ([[["ann", "bob"], self.plan]], extents), (plans, extents + [([[]], end)]), (plans,),
                (plans + [(["ann", "bob"], self.plan, 1)], extents), (plans, extents, []), [plans, extents],
                (extents, plans), (plans, {"a": 1}), (plans[0], extents), None, (plans, extents + [(["ann"], None)])]:
            self.assertIs(self.holds(value), False)
        for value in any_values():
            if value == ("ann", "bob"):
                continue
            for papers in [value, (value, extents), (plans, value), ([value], extents), ([(value, self.plan)], extents),
                           ([(["ann", "bob"], value)], extents), (plans, [(["ann"], value)])]:
                self.assertIs(self.holds(papers), False)

    def test_random_papers_with_parts_left_out(self):
        for seed in range(30):
            dice = Dice(seed)
            system = shop(dice, 6, 0)
            goal = dice.pick(all_goals(system))
            logins = ROLES[:3]
            plans, extents = team_papers(system, logins, goal)
            for left, right in [(plans[1:], extents), (plans, extents[1:]), (plans[:-1], extents)]:
                decided = all(any(set(team) <= set(one) for team, _ in left)
                              or any(set(one) <= set(team) for team, _ in right)
                              for one in [chosen(logins, part) for part in index_lists(3)])
                self.assertEqual(is_team_papers(system, logins, goal, (left, right)), decided)
                self.assertEqual(decided, (left, right) == (plans, extents))


class HelpersTest(unittest.TestCase):
    def test_helpers(self):
        system, goal = key_world(), ("use", "write", "key")
        self.assertEqual(helpers(goal=goal, team=["ann"], system=system), ["dba", "bob"])
        self.assertEqual(helpers(system, ("bob",), goal), ["dba", "ann"])
        self.assertEqual(helpers(system, [], goal), ["dba"])
        self.assertEqual(helpers(system, ["eve"], goal), ["dba"])
        self.assertEqual(helpers(system, ["bob", "ann"], goal), ["dba", "eve"])
        self.assertEqual(helpers(system, ["eve", "bob", "ann", "dba"], goal), [])

    def test_all_roles(self):
        for seed in range(40):
            dice = Dice(seed)
            system = shop(dice, 6, 0)
            team = [role for role in ROLES if dice.below(3) == 0]
            goal = dice.pick(all_goals(system))
            self.assertEqual(helpers(system, team, goal), [
                role for role in ROLES if role not in team and can_ever(system, team + [role], goal)[0] == "plan"])


class PartingTeamTest(unittest.TestCase):
    def test_all_lists_of_logins(self):
        found = set()
        for seed in range(80):
            dice = Dice(seed)
            one = shop(dice, 6, 1)
            other = without(one, [dice.pick(one.grants())])[0] if one.grants() and seed % 5 > 0 else one
            logins = [ROLES, ROLES[::-1], ["eve", "ann", "bob"], []][seed % 4]
            lists = sorted(index_lists(len(logins)), key=lambda part: (-len(part), part))
            expected = [chosen(logins, part) for part in lists
                        if reach(one, chosen(logins, part)) != reach(other, chosen(logins, part))]
            self.assertEqual(parting_team(one, other, logins), expected[0] if expected else None)
            self.assertEqual(parting_team(other, one, tuple(logins)), expected[0] if expected else None)
            found.add(len(expected[0]) if expected else None)
        self.assertTrue({None, 0, 1, 2, 3} <= found, found)

    def test_grants_of_other_givers_and_defaults_make_no_difference(self):
        things = office().things()
        one = System(things, given("dba ann read pay option, dba bob read pay option, ann eve read pay"))
        other = System(things, given("dba ann read pay option, dba bob read pay option, bob eve read pay"))
        self.assertIsNone(parting_team(logins=["ann", "bob"], other=other, one=one))
        self.assertEqual(parting_team(one, office(), ["eve", "dba", "bob"]), ["eve", "dba", "bob"][::2])

    def test_a_longer_list_comes_first(self):
        # x comes to read pay if a calls f, and if b or c has given keeper what the body of f needs.
        names = ["keeper", "a", "b", "c", "x", "z"]
        things = [Role(name, "keeper") for name in names[:5]] + [Role("z", "b"), Table("pay", "keeper", audience=["x"])]
        things.append(Function("f", "keeper", body=[Give("inherit", "z", "a"), Give("read", "pay", "x")]))
        grants = given("keeper a call f, b c inherit z option")
        one, other = System(things, grants), System(things, grants + given("keeper x read pay"))
        self.assertEqual([parting_team(one, other, logins) for logins in [["a", "b", "c"], ["b", "a", "c"],
                                                                          ["a", "b"]]],
                         [["b", "c"], ["b", "c"], ["a"]])
        self.assertEqual(parting_team(one, other, ["keeper"]), [])

    def test_unlike_things(self):
        one = office()
        for other in [System([]), System(one.things()[:-1]), System(one.things()[::-1]), key_world()]:
            expect(self, Mismatch, "value", other, lambda: parting_team(one, other, 1))


class ArgumentsTest(unittest.TestCase):
    def test_the_first_wrong_argument_is_due(self):
        good = [office(), ["ann"], ("act", "bob")]
        bad = [("system", InvalidSystem, "value"), (["ann", "ann"], InvalidTeam, "value"), (["act", "bob"],
                                                                                            InvalidGoal, "value")]
        for action in [team_papers, helpers, lambda *given: is_team_papers(*given, 1)]:
            expect_first(self, action, good, bad)
        other = System([])
        expect_first(self, parting_team, [office(), office(), []], [
            (None, InvalidSystem, "value"), (1, InvalidSystem, "value"), (["zed"], InvalidTeam, "value")])
        expect(self, Mismatch, "value", other, lambda: parting_team(office(), other, ["zed"]))

    def test_any_values(self):
        system = office()
        for value in any_values():
            for action in [team_papers, helpers, lambda *given: is_team_papers(*given, 1)]:
                if not isinstance(value, System):
                    expect(self, InvalidSystem, "value", value, lambda: action(value, 1, 1))
                if value not in ([], (), ["ann"], ("ann", "bob")):
                    expect(self, InvalidTeam, "value", value, lambda: action(system, value, 1))
                expect(self, InvalidGoal, "value", value, lambda: action(system, [], value))
            if not isinstance(value, System):
                expect(self, InvalidSystem, "value", value, lambda: parting_team(value, value, 1))
                expect(self, InvalidSystem, "value", value, lambda: parting_team(system, value, 1))
            if value not in ([], (), ["ann"], ("ann", "bob")):
                expect(self, InvalidTeam, "value", value, lambda: parting_team(system, system, value))

    def test_the_parts_are_checked_by_the_functions_of_plans(self):
        system, goal = key_world(), ("use", "write", "key")
        plans, extents = team_papers(system, ["ann", "bob"], goal)
        self.assertTrue(all(is_plan(system, team, goal, plan) for team, plan in plans))
        self.assertTrue(all(is_never(system, team, goal, extent) for team, extent in extents))


if __name__ == "__main__":
    unittest.main()
