"""Steps and plans, and how they are run and checked [111] to [113]."""

import unittest

from rolereach.errors import CallFailed, Denied, InvalidDeed, InvalidGoal, InvalidNames, InvalidPlan, InvalidSystem
from rolereach.errors import InvalidTeam, Mismatch, NotAdmitted, PlanFailed, UnknownRole, UnknownThing
from rolereach.extents import begin
from rolereach.plans import Step, is_lean, is_plan, run_plan
from rolereach.running import do
from rolereach.systems import System
from rolereach.texts import system_text
from rolereach.things import Call, Function, Give, Make, Role, Table, Take, Use
from tests.plain_deeds import outcome, shop
from tests.plain_extents import all_goals, some_team
from tests.plain_plans import plain_is_lean, plain_is_plan, plain_run, some_step
from tests.values import any_values, expect, expect_first
from tests.worlds import Dice, given, office

READ = Give("read", "pay", "ann")


class StepTest(unittest.TestCase):
    def test_steps(self):
        step = Step(["ann", "bob"], READ)
        self.assertEqual([step.path(), step.role, step.deed], [["ann", "bob"], "bob", READ])
        self.assertEqual(Step(deed=Call("f"), path=("ann",)).path(), ["ann"])
        self.assertEqual(Step(list("hgfedcba"), READ).role, "a")

    def test_the_path_is_new_each_time(self):
        path = ["ann"]
        step = Step(path, READ)
        path.append("bob")
        step.path().append("eve")
        self.assertEqual([step.path(), step.role], [["ann"], "ann"])

    def test_equality(self):
        step = Step(["ann", "bob"], READ)
        self.assertTrue(step == Step(("ann", "bob"), Give("read", "pay", "ann")))
        for other in [Step(["ann"], READ), Step(["bob", "ann"], READ), Step(["ann", "bob"], Call("f")), READ, None,
                      Step(["ann", "bob"], Give("read", "pay", "ann", option=True)), ["ann", "bob"]]:
            self.assertFalse(step == other)
            self.assertTrue(step != other)

    def test_no_path(self):
        for value in any_values() + [["ann", "bob", "ann"], ["ann", "Bob"], list("abcdefghi"), "ann", [[]]]:
            if value not in (["ann"], ("ann", "bob")):
                expect(self, InvalidNames, "value", value, lambda: Step(value, READ))

    def test_no_deed(self):
        others = [Take("read", "pay", "ann"), Use("read", "pay"), Make(Table("pay", "ann")), "give read pay ann"]
        for value in any_values() + others:
            if not isinstance(value, (Give, Call)):
                expect(self, InvalidDeed, "value", value, lambda: Step(["ann"], value))
        expect_first(self, Step, [["ann"], READ], [([], InvalidNames, "value"), (None, InvalidDeed, "value")])


def failed(case, action, index):
    """The action raises PlanFailed with this index; the outcome of its cause."""
    with case.assertRaises(PlanFailed) as caught:
        action()
    case.assertEqual([type(caught.exception.index), caught.exception.index], [int, index])
    return caught.exception.__cause__


class RunTest(unittest.TestCase):
    def test_the_plain_reading_says_the_same(self):
        done = 0
        for seed in range(600):
            dice = Dice(seed)
            system, team = shop(dice, 14, 1), some_team(dice)
            plan = [some_step(dice, system, team) for _ in range(1 + dice.below(3))]
            expected = plain_run(system, team, plan)
            if isinstance(expected, tuple):
                cause = failed(self, lambda: run_plan(system, team, plan), expected[0])
                # Of several reasons another one may be due than the one that a session finds first.
                if expected[1] is not None and type(cause) is type(expected[1]):
                    self.assertEqual(outcome(cause), outcome(expected[1]))
            else:
                done += 1
                self.assertEqual(run_plan(system, tuple(team), tuple(plan)), expected)
        self.assertGreater(done, 60)

    def test_a_plan(self):
        system = office("dba ann act bob, dba bob act eve, dba eve read pay option")
        plan = [Step(["ann", "bob", "eve"], Give("read", "pay", "caller")),
                Step(["ann", "bob", "eve"], Give("read", "pay", "ann", option=True)),
                Step(["ann"], Give("read", "pay", "public"))]
        text = system_text(system)
        after = run_plan(plan=plan, team=["ann"], system=system)
        self.assertEqual(after, System(system.things(), system.grants() + given(
            "eve ann read pay option, ann public read pay")))
        self.assertEqual([system_text(system), run_plan(system, [], [])], [text, system])

    def test_act_at_that_time(self):
        things = office().things() + [Function("lend", "dba", body=[Give("act", "bob", "caller")])]
        system = System(things, given("dba ann call lend"))
        steps = [Step(["ann", "bob"], Give("read", "key", "ann")), Step(["ann"], Call("lend"))]
        self.assertEqual(len(run_plan(system, ["ann"], steps[::-1])), 3)
        cause = failed(self, lambda: run_plan(system, ["ann"], steps), 0)
        self.assertEqual(outcome(cause), ("Denied", ["ann", "act", "bob"], None))

    def test_what_fails_first_in_a_step(self):
        system = office("dba ann act bob")
        team = ["ann", "dba"]
        good = Step(["dba"], READ)
        for step, expected in [
                (Step(["zed", "yan"], Call("zed")), ("UnknownRole", ["zed"], None)),
                (Step(["bob", "pay"], Call("zed")), ("UnknownRole", ["pay"], None)),
                (Step(["bob", "eve"], Call("zed")), ("InvalidTeam", [team], None)),
                (Step(["ann", "bob", "eve", "dba"], Call("zed")), ("Denied", ["bob", "act", "eve"], None)),
                (Step(["ann", "bob"], Call("zed")), ("UnknownThing", ["zed"], None)),
                (Step(["ann", "bob"], Give("call", "pay", "ann")), ("Mismatch", ["call"], None)),
                (Step(["ann", "bob"], Give("read", "key", "dba")), ("NotAdmitted", ["dba"], None)),
                (Step(["ann", "bob"], Give("read", "key", "zed")), ("UnknownRole", ["zed"], None)),
                (Step(["ann", "bob"], READ), ("Denied", ["bob", "read", "pay"], None))]:
            for count in range(3):
                cause = failed(self, lambda: run_plan(system, team, [good] * count + [step, good]), count)
                self.assertEqual(outcome(cause), expected)
        cause = failed(self, lambda: run_plan(system, team, [Step(["eve"], READ)]), 0)
        self.assertIs(cause.value, team)
        self.assertIsNone(cause.__cause__)

    def test_the_error_of_a_call(self):
        things = office().things() + [Function("bad", "eve", body=[Give("act", "eve", "bob")])]
        system = System(things, given("eve ann call bad"))
        cause = failed(self, lambda: run_plan(system, ["ann"], [Step(["ann"], Call("bad"))]), 0)
        self.assertEqual(outcome(cause), ("CallFailed", ["bad", 0], ("Denied", ["eve", "act", "eve"], None)))

    def test_two_hundred_steps(self):
        step = Step(["dba"], READ)
        self.assertEqual(len(run_plan(office(), ["dba"], [step] * 200)), 1)
        for plan in [[step] * 201, (step,) * 201]:
            expect(self, InvalidPlan, "value", plan, lambda: run_plan(office(), ["dba"], plan))
            self.assertIs(is_plan(office(), ["dba"], ("act", "ann"), plan), False)

    def test_no_plan(self):
        for value in any_values() + [[Step(["dba"], READ), READ], [["dba"], READ], Step(["dba"], READ)]:
            if value not in ([], ()):
                expect(self, InvalidPlan, "value", value, lambda: run_plan(office(), ["dba"], value))
        expect_first(self, run_plan, [office(), ["ann"], []], [
            ("system", InvalidSystem, "value"), (["ann", "ann"], InvalidTeam, "value"), ([1], InvalidPlan, "value")])


class CheckTest(unittest.TestCase):
    def test_the_plain_reading_says_the_same(self):
        seen = set()
        for seed in range(150):
            dice = Dice(seed)
            system, team = shop(dice, 14, 0), some_team(dice)
            plan = [some_step(dice, system, team) for _ in range(4)]
            plan = [step for step in plan if not isinstance(plain_run(system, team, [step]), tuple)]
            goals = [goal for goal in all_goals(system)[seed % 7::7] if not plain_is_plan(system, team, goal, [])]
            for goal in goals[:6]:
                answers = [plain_is_plan(system, team, goal, plan), plain_is_lean(system, team, goal, plan)]
                self.assertEqual([is_plan(system, team, goal, plan), is_lean(system, team, goal, plan)], answers)
                seen.add((tuple(answers), len(plan)))
        self.assertTrue({((True, True), 1), ((True, False), 2), ((False, False), 1)} <= seen)

    def test_needless_steps(self):
        system = office("dba ann act bob")
        goal = ("has", "eve", "read", "key")
        step, needless = Step(["ann", "bob"], Give("read", "key", "eve")), Step(["ann", "bob"], Give("read", "key",
                                                                                                     "ann"))
        self.assertTrue(is_lean(system, ["ann"], goal, [step]))
        for plan in [[step, needless], [needless, step], [step, step], [needless, step, needless]]:
            self.assertIs(is_plan(system, ["ann"], goal, plan), True)
            self.assertIs(is_lean(system, ["ann"], goal, plan), False)
        for plan in [[], [needless], [Step(["bob"], step.deed)], [step, Step(["ann"], READ)]]:
            self.assertIs(is_plan(system, ["ann"], goal, plan), False)
            self.assertIs(is_lean(system, ["ann"], goal, plan), False)

    def test_a_goal_that_is_met_at_once(self):
        goal = ("act", "ann")
        self.assertTrue(is_plan(value=[], goal=goal, team=["ann"], system=office()))
        self.assertTrue(is_lean(value=(), goal=goal, team=("ann",), system=office()))
        self.assertFalse(is_lean(office(), ["ann", "dba"], goal, [Step(["dba"], READ)]))
        self.assertFalse(is_plan(office(), [], goal, []))

    def test_a_needless_step_may_be_needed_by_another_needless_one(self):
        system = office()
        first, second = Step(["dba"], Give("read", "pay", "ann", option=True)), Step(["ann"], Give("read", "pay",
                                                                                                   "bob"))
        goal = ("has", "eve", "act", "eve")
        last = Step(["dba"], Give("act", "eve", "eve"))
        plan = [first, second, last]
        self.assertTrue(is_plan(system, ["dba", "ann"], goal, plan))
        self.assertFalse(is_plan(system, ["dba", "ann"], goal, [second, last]))
        self.assertFalse(is_lean(system, ["dba", "ann"], goal, plan))

    def test_any_value_is_no_plan(self):
        for value in any_values() + [[Step(["dba"], READ), READ], Step(["dba"], READ), {0: Step(["dba"], READ)}]:
            if value not in ([], ()):
                self.assertIs(is_plan(office(), ["ann"], ("act", "ann"), value), False)
                self.assertIs(is_lean(office(), ["ann"], ("act", "ann"), value), False)

    def test_arguments(self):
        for action in [is_plan, is_lean]:
            expect_first(self, lambda *given: action(*given, None), [office(), ["ann"], ("act", "ann")], [
                ("system", InvalidSystem, "value"), (["zed"], InvalidTeam, "value"), (["act", "ann"], InvalidGoal,
                                                                                      "value")])

    def test_the_goal_is_met_at_the_beginning_behind_it(self):
        system = office()
        after = do(system, "dba", Give("act", "bob", "ann"))
        self.assertEqual(begin(after, ["ann"]).roles(), ["ann", "bob"])
        self.assertTrue(is_lean(system, ["ann", "dba"], ("has", "ann", "act", "bob"), [Step(["dba"], Give("act",
                                                                                                          "bob",
                                                                                                          "ann"))]))
        self.assertFalse(is_plan(system, ["ann", "dba"], ("act", "eve"), [Step(["bob"], READ)]))


class ErrorsTest(unittest.TestCase):
    def test_the_causes_are_errors_of_their_own(self):
        system = office()
        for step, error in [(Step(["ann"], READ), Denied), (Step(["ann"], Call("pay")), UnknownThing),
                            (Step(["ann"], Give("act", "pay", "bob")), Mismatch), (Step(["zed"], READ), UnknownRole)]:
            self.assertIs(type(failed(self, lambda: run_plan(system, ["ann"], [step]), 0)), error)
        self.assertTrue(issubclass(NotAdmitted, LookupError) and issubclass(CallFailed, LookupError))
        with self.assertRaises(PlanFailed):
            run_plan(System([Role("a", "a")]), ["a"], [Step(["a", "b"], Call("f"))])


if __name__ == "__main__":
    unittest.main()
