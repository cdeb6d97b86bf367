"""Smallest cuts [124] and needed grants [125]."""

import unittest

from rolereach.errors import InvalidGoal, InvalidGrants, InvalidSystem, InvalidTeam, TooMany
from rolereach.extents import reach
from rolereach.grants import Grant
from rolereach.plans import Step, can_ever, is_lean, is_never
from rolereach.standing import without
from rolereach.systems import System
from rolereach.teams import cut_papers, is_cut_papers, needed
from rolereach.things import Call, Give
from tests.plain_deeds import ROLES, shop
from tests.plain_extents import all_goals
from tests.test_teams import chosen, index_lists, plain_parts
from tests.values import any_values, expect, expect_first
from tests.worlds import Dice, full_things, given, office, possible_grants

GOAL = ("use", "read", "pay")


def two_ways():
    """ann comes to pay by bob, or by eve."""
    return office("dba ann act bob, dba ann act eve, dba bob read pay option, dba eve inherit bob")


def no_way(system, team, goal, grants):
    return can_ever(without(system, grants)[0], team, goal)[0] == "never"


class CutPapersTest(unittest.TestCase):
    def test_all_lists_of_grants(self):
        sizes = set()
        for seed in range(60):
            dice = Dice(seed)
            system = shop(dice, 9, 0)
            team = [role for role in ROLES if dice.below(3) == 0]
            grants = system.grants()[::1 + seed % 2][:5]
            grants = grants[::-1] if seed % 3 == 0 else grants
            for goal in all_goals(system)[seed % 13::13]:
                cuts, others = plain_parts(
                    len(grants), lambda part: no_way(system, team, goal, chosen(grants, part)))
                papers = cut_papers(system, team, goal, grants)
                self.assertEqual([[indices for indices, _ in part] for part in papers], [cuts, others])
                for indices, extent in papers[0]:
                    after = without(system, chosen(grants, indices))[0]
                    self.assertTrue(is_never(after, team, goal, extent))
                for indices, plan in papers[1]:
                    after = without(system, chosen(grants, indices))[0]
                    self.assertTrue(is_lean(after, team, goal, plan))
                self.assertTrue(is_cut_papers(system, team, goal, grants, papers))
                sizes.add((len(papers[0]), len(papers[1])))
        self.assertTrue({(0, 1), (1, 0), (1, 1)} <= sizes, sizes)

    def test_two_ways(self):
        system = two_ways()
        grants = system.grants()
        self.assertEqual([grant.key() for grant in grants], [
            ("dba", "eve", "inherit", "bob"), ("dba", "ann", "act", "bob"), ("dba", "ann", "act", "eve"),
            ("dba", "bob", "read", "pay")])
        papers = cut_papers(grants=grants, goal=GOAL, team=["ann"], system=system)
        self.assertEqual([type(papers), type(papers[0]), type(papers[1]), type(papers[0][0])],
                         [tuple, list, list, tuple])
        self.assertEqual([indices for indices, _ in papers[0]], [[0, 1], [1, 2], [3]])
        self.assertEqual([indices for indices, _ in papers[1]], [[0, 2], [1]])
        self.assertEqual(papers[0][2][1], reach(without(system, grants[3:])[0], ["ann"]))
        self.assertEqual([plan for _, plan in papers[1]], [[], []])
        self.assertTrue(is_cut_papers(system, ["ann"], GOAL, grants, papers))

    def test_what_falls_with_a_grant(self):
        system = office("dba ann read pay option, ann bob read pay option, bob eve read pay")
        grants = system.grants()[:2]
        self.assertEqual([grant.giver for grant in grants], ["ann", "bob"])
        papers = cut_papers(system, ["eve"], GOAL, [grants[1], grants[0]])
        self.assertEqual([[indices for indices, _ in part] for part in papers], [[[0], [1]], [[]]])

    def test_the_empty_list(self):
        system = office("dba ann read pay")
        self.assertEqual(cut_papers(system, ["ann"], GOAL, []), ([], [([], [])]))
        self.assertEqual(cut_papers(system, ["bob"], GOAL, ()), ([([], reach(system, ["bob"]))], []))
        self.assertEqual(cut_papers(system, ["bob"], GOAL, system.grants()), ([([], reach(system, ["bob"]))], []))
        self.assertTrue(is_cut_papers(system, ["bob"], GOAL, system.grants(), ([([], reach(system, ["bob"]))], [])))
        self.assertTrue(is_cut_papers(system, ["ann"], GOAL, [], ([], [([], [])])))
        self.assertFalse(is_cut_papers(system, ["ann"], GOAL, [], ([], [])))

    def test_plans_for_the_system_after_the_revocation(self):
        system = office("dba ann read pay option, dba bob read pay option, dba eve act ann, dba eve act bob")
        goal = ("has", "eve", "read", "pay")
        grants = [grant for grant in system.grants() if grant.thing == "pay"]
        papers = cut_papers(system, ["eve"], goal, grants)
        self.assertEqual(papers[1], [
            ([0], [Step(["eve", "bob"], Give("read", "pay", "eve"))]),
            ([1], [Step(["eve", "ann"], Give("read", "pay", "eve"))])])
        self.assertEqual([indices for indices, _ in papers[0]], [[0, 1]])

    def test_no_grants(self):
        system = office("dba ann read pay option, ann bob read pay, dba eve read pay, dba ann act bob, "
                        "dba ann act eve, dba bob act ann")
        grants = system.grants()
        wrong = [[Grant("dba", "ann", "read", "pay")], [Grant("dba", "eve", "write", "pay")], [grants[0], grants[0]],
                 [grants[0], None], grants, tuple(grants), ["dba ann read pay"],
                 [Grant("dba", "eve", "read", "pay", option=True)],
                 [grants[0].key()], {grants[0].key(): 1}, grants[0], [[grants[0]]],
                 [grants[0], grants[1], Grant(*grants[0].key(), option=grants[0].option)]]
        for value in wrong + any_values():
            if value not in ([], (), [Grant("ann", "bob", "read", "pay")]):
                expect(self, InvalidGrants, "value", value, lambda: cut_papers(system, ["ann"], GOAL, value))
                expect(self, InvalidGrants, "value", value, lambda: is_cut_papers(system, ["ann"], GOAL, value, 1))
        self.assertEqual(len(cut_papers(system, ["dba"], GOAL, grants[:5])[1]), 1)


class IsCutPapersTest(unittest.TestCase):
    def setUp(self):
        self.system = two_ways()
        self.grants = self.system.grants()
        self.cuts, self.others = cut_papers(self.system, ["ann"], GOAL, self.grants)

    def holds(self, value):
        return is_cut_papers(value=value, grants=self.grants, goal=GOAL, team=["ann"], system=self.system)

    def extent(self, indices):
        return reach(without(self.system, chosen(self.grants, indices))[0], ["ann"])

    def test_papers(self):
        cuts, others = self.cuts, self.others
        needless = [Step(["ann", "bob"], Give("read", "pay", "bob"))]
        for value in [(cuts, others), (tuple(cuts), tuple(others)), (cuts[::-1], others[::-1]), (cuts * 2, others * 2),
                      ([((1, 0), cuts[0][1])] + cuts[1:], others), (cuts, [([2, 0], []), ((1,), ())]),
                      (cuts + [([1, 0, 3], self.extent([0, 1, 3]))], others), (cuts, others + [([], [])]),
                      (cuts, [([0, 2], needless), ([1], [])])]:
            self.assertIs(self.holds(value), True)

    def test_what_is_not_decided(self):
        cuts, others = self.cuts, self.others
        for value in [(cuts[1:], others), (cuts[:2], others), (cuts, others[1:]), (cuts, others[:1]), ([], others),
                      (cuts, []), ([], []), (cuts, [([], [])])]:
            self.assertIs(self.holds(value), False)

    def test_wrong_parts(self):
        cuts, others = self.cuts, self.others
        end = cuts[0][1]
        for value in [
                (cuts + [([0, 2], self.extent([0, 2]))], others), (cuts, others + [([3], [])]),
                (cuts, others + [([0, 1], [])]),
                ([([0, 1], self.extent([]))] + cuts[1:], others), (cuts + [([0, 1, 1], end)], others),
                (cuts + [([4], end)], others),
                (cuts + [([-1], end)], others), (cuts + [([True, 0], end)], others),
                (cuts + [([False, True], end)], others),
                (cuts + [(["0"], end)], others), (cuts + [(0, end)], others), (cuts + [([[0]], end)], others),
                (cuts + [([0, 1], None)], others), (cuts, others + [([1], None)]), (cuts, others + [([True], [])]),
                (others, cuts), (cuts,), [cuts, others], (cuts, others, []), (cuts + [[[0, 1], end]], others), None,
                (cuts, others + [([1], [Step(["bob"], Call("run"))])]), ({}, others), (cuts, {}),
                (cuts + [([0, 1], end, 1)], others), (cuts, [([1], []), ([0, 2], []), ()])]:
            self.assertIs(self.holds(value), False)
        for value in any_values():
            for papers in [value, (value, others), (cuts, value), (cuts + [value], others),
                           (cuts + [([0, 1], value)], others)]:
                if papers != (cuts + [()], others) or value == ():
                    self.assertIs(self.holds(papers), False)

    def test_random_papers_with_parts_left_out(self):
        for seed in range(25):
            dice = Dice(seed)
            system, team = shop(dice, 6, 0), ["ann", "bob"]
            goal, grants = dice.pick(all_goals(system)), system.grants()[:3]
            cuts, others = cut_papers(system, team, goal, grants)
            for left, right in [(cuts[1:], others), (cuts, others[1:])]:
                decided = all(any(set(part) <= set(one) for part, _ in left)
                              or any(set(one) <= set(part) for part, _ in right) for one in index_lists(len(grants)))
                self.assertEqual(is_cut_papers(system, team, goal, grants, (left, right)), decided)
                self.assertEqual(decided, (left, right) == (cuts, others))


class NeededTest(unittest.TestCase):
    def test_grants_that_are_cuts_by_themselves(self):
        system = two_ways()
        self.assertEqual(needed(goal=GOAL, team=("ann",), system=system),
                         [Grant("dba", "bob", "read", "pay", option=True)])
        self.assertEqual(needed(system, ["bob"], GOAL), [Grant("dba", "bob", "read", "pay", option=True)])
        self.assertEqual(needed(system, ["dba"], GOAL), [])
        self.assertIsNone(needed(system, [], GOAL))
        self.assertEqual(needed(system, [], ("has", "eve", "read", "pay")), [
            Grant("dba", "eve", "inherit", "bob"), Grant("dba", "bob", "read", "pay", option=True)])

    def test_all_grants(self):
        found = set()
        for seed in range(40):
            dice = Dice(seed)
            system = shop(dice, 9, 0)
            team = [role for role in ROLES if dice.below(3) == 0]
            for goal in all_goals(system)[seed % 7::7]:
                expected = None
                if can_ever(system, team, goal)[0] == "plan":
                    expected = [grant for grant in system.grants() if no_way(system, team, goal, [grant])]
                self.assertEqual(needed(system, team, goal), expected)
                found.add(None if expected is None else len(expected))
        self.assertTrue({None, 0, 1, 2} <= found, found)

    def test_sixty_grants_and_one_more(self):
        things = full_things()
        grants = [grant for grant in possible_grants(things) if grant.giver == "a"]
        self.assertEqual(needed(System(things, grants[:60]), ["a"], ("use", "read", "ta")), [])
        more = System(things, grants[:61])
        expect_count(self, 61, lambda: needed(more, ["a"], ("use", "read", "ta")))
        # Also where the team does not reach the goal, but after the goal has been checked.
        expect_count(self, 61, lambda: needed(more, [], ("act", "b")))
        expect(self, InvalidGoal, "value", ("act", "z"), lambda: needed(more, [], ("act", "z")))


def expect_count(case, count, action):
    with case.assertRaises(TooMany) as caught:
        action()
    case.assertEqual(caught.exception.count, count)


class ArgumentsTest(unittest.TestCase):
    def test_the_first_wrong_argument_is_due(self):
        bad = [("system", InvalidSystem, "value"), (["ann", "ann"], InvalidTeam, "value"),
               (["act", "bob"], InvalidGoal, "value"),
               ([1], InvalidGrants, "value")]
        for action in [cut_papers, lambda *given: is_cut_papers(*given, 1)]:
            expect_first(self, action, [office(), ["ann"], ("act", "bob"), []], bad)
        expect_first(self, needed, [office(), ["ann"], ("act", "bob")], bad[:3])

    def test_any_values(self):
        system = office()
        for value in any_values():
            for action in [needed, lambda *given: cut_papers(*given, 1), lambda *given: is_cut_papers(*given, 1, 1)]:
                if not isinstance(value, System):
                    expect(self, InvalidSystem, "value", value, lambda: action(value, 1, 1))
                if value not in ([], (), ["ann"], ("ann", "bob")):
                    expect(self, InvalidTeam, "value", value, lambda: action(system, value, 1))
                expect(self, InvalidGoal, "value", value, lambda: action(system, [], value))

    def test_the_system_is_not_changed(self):
        system = two_ways()
        grants = system.grants()
        cut_papers(system, ["ann"], GOAL, grants)
        needed(system, ["ann"], GOAL)
        self.assertEqual([system, grants], [two_ways(), two_ways().grants()])


if __name__ == "__main__":
    unittest.main()
