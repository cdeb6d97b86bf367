"""What a team can ever act as and what can ever be held, and goals [102] to [106]."""

import unittest

from rolereach.errors import InvalidExtent, InvalidGoal, InvalidSystem, InvalidTeam
from rolereach.extents import Extent, advance, begin, is_closed, is_goal, meets, reach, rounds
from rolereach.systems import System
from rolereach.things import Call, Function, Give, Role, Table
from tests.plain_deeds import shop
from tests.plain_extents import all_goals, full_roles, made, plain, plain_advance, plain_begin, plain_meets
from tests.plain_extents import plain_rounds, some_extent, some_team, with_less, with_more
from tests.values import any_values, expect, expect_first
from tests.worlds import Dice, full_system, full_things, given, office

NO_TEAMS = [["ann", "ann"], ["zed"], ["pay"], ["public"], ["ann", 1], "ann", {"ann": 1}, list("abcdefghi")]


def contains(one, other):
    return one[0] >= other[0] and all(level <= one[1].get(spot, 0) for spot, level in other[1].items())


class PlainReadingTest(unittest.TestCase):
    """The program says what the plain reading says."""

    def test_rounds(self):
        longest = 0
        for seed in range(250):
            dice = Dice(seed)
            system, team = shop(dice, dice.below(8)), some_team(dice)
            expected = plain_rounds(system, team)
            self.assertEqual([plain(extent) for extent in rounds(system, team)], expected)
            self.assertEqual(plain(begin(system, team)), expected[0])
            self.assertEqual(plain(reach(system, tuple(team))), expected[-1])
            longest = max(longest, len(expected))
        self.assertGreater(longest, 4)

    def test_advance_at_any_extent(self):
        for seed in range(400):
            dice = Dice(seed)
            system = shop(dice)
            extent = some_extent(dice, system)
            self.assertEqual(plain(advance(system, made(extent))), plain_advance(system, extent))

    def test_closed_extents(self):
        counts = {True: 0, False: 0}
        for seed in range(60):
            dice = Dice(seed)
            system, team = shop(dice), some_team(dice)
            end = plain_rounds(system, team)[-1]
            self.assertTrue(is_closed(system, team, made(end)))
            first = plain_begin(system, team)
            for extent in with_less(dice, end) + with_more(dice, system, end) + [some_extent(dice, system)]:
                roles, levels = extent
                closed = (full_roles(system, levels, roles) == roles and contains(extent, first)
                          and plain_advance(system, extent) == extent)
                self.assertEqual(is_closed(system, team, made(extent)), closed)
                counts[closed] += 1
        self.assertGreater(min(counts.values()), 50)

    def test_goals(self):
        for seed in range(60):
            dice = Dice(seed)
            system = shop(dice)
            extent = some_extent(dice, system)
            for goal in all_goals(system):
                self.assertIs(meets(system, made(extent), goal), plain_meets(system, extent, goal))


def chain(names, things=()):
    """Roles of dba, and functions of dba each of which opens the next one for its caller; the last one opens pay."""
    found = [Role("dba", "dba"), Role("ann", "dba"), Role("bob", "dba"), Table("pay", "dba")] + list(things)
    body = Give("read", "pay", "caller")
    for name in reversed(names):
        found.append(Function(name, "dba", body=[body]))
        body = Give("call", name, "caller")
    return System(found, given(f"dba ann call {names[0]}"))


class SpreadTest(unittest.TestCase):
    def test_no_team(self):
        system = office("dba ann act bob, dba bob read pay option")
        self.assertEqual(rounds(system, []), [begin(system, [])])
        self.assertEqual([reach(system, ()).roles(), reach(system, []).levels()],
                         [[], {("ann", "act", "bob"): 1, ("bob", "read", "pay"): 2}])
        self.assertTrue(is_closed(system, [], reach(system, [])))

    def test_no_role(self):
        self.assertEqual(rounds(System([]), []), [Extent([], {})])

    def test_levels_are_the_greatest_of_the_grants(self):
        system = office("dba ann read pay option, ann bob read pay option, dba bob read pay, dba public write pay")
        self.assertEqual(begin(team=["eve"], system=system).rows(), [
            ("ann", "read", "pay", 2), ("bob", "read", "pay", 2), ("public", "write", "pay", 1)])

    def test_a_role_gives_what_it_may_and_not_to_itself(self):
        system = office("dba ann read pay option")
        extent = advance(extent=begin(system, ["ann"]), system=system)
        self.assertEqual(extent.rows(), [("ann", "read", "pay", 2), ("bob", "read", "pay", 2), ("dba", "read", "pay",
                                                                                                2),
                                         ("eve", "read", "pay", 2), ("public", "read", "pay", 1)])
        owner = System([Role("a", "a"), Role("b", "a"), Table("t", "b")])
        self.assertEqual(reach(owner, ["b"]).rows(), [("a", "read", "t", 2), ("a", "write", "t", 2),
                                                      ("public", "read", "t", 1), ("public", "write", "t", 1)])

    def test_two_roles_give_to_each_other(self):
        system = System([Role("a", "a"), Role("b", "b"), Table("t", "a")], given("a b read t option"))
        self.assertEqual(reach(system, ["b"]).level("a", "read", "t"), 2)
        self.assertEqual([reach(system, ["a"]).level(role, "write", "t") for role in ["a", "b"]], [0, 2])
        # The second round adds what b gives back to the owner.
        self.assertEqual([extent.level("a", "write", "t") for extent in rounds(system, ["a", "b"])], [0, 0, 2])

    def test_audiences(self):
        system = System([Role("a", "a"), Role("b", "b"), Role("c", "c"), Table("t", "a", audience=["c"])])
        self.assertEqual(reach(system, ["a"]).levels(), {
            **{(taker, right, "a"): 2 for taker in ["b", "c"] for right in ["inherit", "act"]},
            ("public", "inherit", "a"): 1, ("public", "act", "a"): 1, ("c", "read", "t"): 2, ("c", "write", "t"): 2})

    def test_a_chain_of_functions(self):
        system = chain(["f", "g", "h", "k"])
        extents = rounds(system, ["ann"])
        self.assertEqual([len(extent) for extent in extents], [1, 2, 3, 4, 5])
        self.assertEqual(extents[-1].level("ann", "read", "pay"), 1)
        self.assertEqual(len(rounds(system, ["bob"])), 1)

    def test_a_body_that_gives_itself_what_it_needs_next(self):
        body = [Give("call", "g", "bob"), Call("g"), Give("read", "pay", "caller")]
        things = [Role("dba", "dba"), Role("ann", "dba"), Role("bob", "dba"), Table("pay", "dba"),
                  Function("g", "bob", mode="caller"), Function("f", "dba", body=body)]
        # dba does not have call on g: only bob gives it.
        self.assertEqual(reach(System(things, given("dba ann call f")), ["ann"]).levels(), {("ann", "call", "f"): 1})
        ready = System(things, given("dba ann call f, bob dba call g option"))
        self.assertEqual(reach(ready, ["ann"]).level("ann", "read", "pay"), 1)
        own = [Function("g", "dba", mode="caller", body=[Give("write", "pay", "bob")]),
               Function("f", "dba", mode="caller", body=[Call("g")]),
               Function("h", "dba", body=[Give("write", "pay", "caller", option=True), Give("call", "f", "ann"),
                                          Give("call", "g", "ann")])]
        system = System(things[:4] + own, given("dba ann call h"))
        self.assertEqual([extent.level("bob", "write", "pay") for extent in rounds(system, ["ann"])], [0, 0, 2])

    def test_a_body_that_fails_late_adds_nothing(self):
        body = [Give("read", "pay", "caller", option=True), Give("act", "bob", "ann"), Give("act", "eve", "bob")]
        things = [Role("dba", "dba"), Role("ann", "dba"), Role("bob", "dba"), Role("eve", "eve"), Table("pay", "dba"),
                  Function("f", "dba", body=body)]
        system = System(things, given("dba ann call f"))
        self.assertEqual(rounds(system, ["ann"]), [begin(system, ["ann"])])
        # eve can give dba what the body needs, but it is ann who calls.
        self.assertEqual([reach(system, team).level("ann", "read", "pay") for team in [["eve"], ["ann", "eve"]]], [0,
                                                                                                                   2])

    def test_each_gift_and_each_call_for_itself(self):
        things = [Role("dba", "dba"), Role("ann", "dba"), Table("pay", "dba"),
                  Function("f", "dba", body=[Give("call", "g", "caller")]),
                  Function("g", "dba", body=[Give("read", "pay", "caller")])]
        system = System(things, given("dba ann call f"))
        self.assertEqual([len(extent) for extent in rounds(system, ["ann"])], [1, 2, 3])

    def test_roles_are_acted_as_at_once_when_they_can_be(self):
        system = office("dba ann act bob, dba bob act eve, dba eve act dba")
        self.assertEqual(begin(system, ["ann"]).roles(), ["ann", "bob", "dba", "eve"])
        lend = System(office().things() + [Function("lend", "dba", body=[Give("act", "bob", "caller")])],
                      given("dba ann call lend, dba bob act eve"))
        self.assertEqual([extent.roles() for extent in rounds(lend, ["ann"])][:2], [["ann"], ["ann", "bob", "eve"]])

    def test_the_greatest_system(self):
        for system in [full_system(), System(full_things())]:
            extents = rounds(system, ["a"])
            self.assertEqual(extents[-1].roles(), list("abcdefgh"))
            self.assertTrue(is_closed(system, ["a"], extents[-1]))
            self.assertEqual(len(reach(system, list("hgfedcba"))), 34 * 9)


class ArgumentsTest(unittest.TestCase):
    def test_no_system(self):
        actions = [lambda value: begin(value, 1), lambda value: advance(value, 1), lambda value: reach(value, 1),
                   lambda value: rounds(value, 1), lambda value: is_closed(value, 1, 1), lambda value: is_goal(value,
                                                                                                               1),
                   lambda value: meets(value, 1, 1)]
        for value in any_values():
            if not isinstance(value, System):
                for action in actions:
                    expect(self, InvalidSystem, "value", value, lambda: action(value))

    def test_no_team(self):
        system = office()
        for value in any_values() + NO_TEAMS:
            if value not in ([], (), ["ann"], ("ann", "bob")):
                for action in [lambda: begin(system, value), lambda: reach(system, value), lambda: rounds(system,
                                                                                                          value),
                               lambda: is_closed(system, value, 1)]:
                    expect(self, InvalidTeam, "value", value, action)

    def test_no_extent_for_the_system(self):
        system = office()
        others = [Extent(["zed"], {}), Extent(["pay"], {}), Extent(["ann", "zed"], {}),
                  Extent([], {("zed", "read", "pay"): 1}), Extent([], {("pay", "read", "pay"): 1}),
                  Extent([], {("ann", "read", "zed"): 1}), Extent([], {("ann", "call", "pay"): 1}),
                  Extent([], {("ann", "read", "ann"): 2}), Extent([], {("ann", "act", "run"): 1})]
        for value in any_values() + others:
            if not isinstance(value, Extent) or value in others:
                expect(self, InvalidExtent, "value", value, lambda: advance(system, value))
                expect(self, InvalidExtent, "value", value, lambda: meets(system, value, 1))
                self.assertIs(is_closed(system, [], value), False)
        # What is held need not be admitted by an audience.
        extent = Extent(["ann"], {("bob", "read", "key"): 2, ("public", "read", "key"): 1})
        self.assertIs(meets(system, extent, ("option", "bob", "read", "key")), True)

    def test_an_extent_of_nine_things_more_or_less(self):
        system = office("dba ann act bob")
        end = reach(system, ["ann"])
        self.assertTrue(is_closed(system, ["ann"], value=end))
        for extent in [Extent(["ann"], end.levels()), Extent(["bob", "ann", "eve"], end.levels()),
                       Extent(end.roles(), {}), Extent(end.roles(), {**end.levels(), ("eve", "act", "eve"): 2}),
                       Extent([], {})]:
            larger = extent.level("eve", "act", "eve") == 2 or "eve" in extent.roles()
            self.assertEqual(is_closed(system, ["ann"], extent), plain_closed(system, ["ann"], extent), larger)

    def test_the_first_wrong_argument_is_due(self):
        extent = begin(office(), [])
        expect_first(self, meets, [office(), extent, ("act", "ann")], [
            ("system", InvalidSystem, "value"), (Extent(["zed"], {}), InvalidExtent, "value"),
            (["act", "ann"], InvalidGoal, "value")])
        expect_first(self, advance, [office(), extent],
                     [(None, InvalidSystem, "value"), ("extent", InvalidExtent, "value")])
        expect_first(self, lambda system, team: is_closed(system, team, 1), [office(), []],
                     [(None, InvalidSystem, "value"), ("ann", InvalidTeam, "value")])


def plain_closed(system, team, extent):
    roles, levels = plain(extent)
    return (full_roles(system, levels, roles) == roles and contains((roles, levels), plain_begin(system, team))
            and plain_advance(system, (roles, levels)) == (roles, levels))


NO_GOALS = [
    (), ("act",), ("act", "ann", "ann"), ("act", "pay"), ("act", "zed"), ("act", "public"), ["act", "ann"], ("ann",),
    ("act", ["ann"]), ("has", "ann", "read"), ("has", "ann", "read", "pay", "pay"), ["has", "ann", "read", "pay"],
    ("has", "ann", "call", "pay"), ("has", "ann", "reads", "pay"), ("has", "zed", "read", "pay"), (["has"], "ann"),
    ("has", "ann", "read", "zed"), ("has", "public", "read", "pay"), ("option", "pay", "read", "pay"),
    ("has", "pay", "read", "ann"), ("option", "ann", "read", "run"), ("use", "read"), ("use", "read", "pay", "pay"),
    ("use", "call", "pay"), ("use", "pay", "read"), ("use", "ann", "read", "pay"), ["use", "read", "pay"],
    ("see", "read", "pay"), (None, "read", "pay"), (1, "ann", "read", "pay"), ("can", "ann", "read", "pay"),
    ("Act", "ann"), ("can", "ann"), (None, "ann"), (True, "ann"), ("has", None, "read", "pay"), ("use", [], "pay"),
    ("use", "read", {}), ("has", "ann", "read", ["pay"]), (("act", "ann"),), "act ann", {"act": "ann"},
]


class GoalTest(unittest.TestCase):
    def test_goals(self):
        for goal in all_goals(office()):
            self.assertIs(is_goal(office(), goal), True)
        self.assertIs(is_goal(value=("act", "ann"), system=office()), True)
        self.assertIs(is_goal(System([]), ("act", "ann")), False)

    def test_no_goals(self):
        system = office()
        for value in any_values() + NO_GOALS:
            self.assertIs(is_goal(system, value), False)
            expect(self, InvalidGoal, "value", value, lambda: meets(system, begin(system, []), value))

    def test_what_meets_them(self):
        system = office("dba ann inherit bob, dba ann act eve, dba public read pay, dba bob write pay option")
        extent = begin(system, ["ann"])
        for goal, met in [(("has", "eve", "read", "pay"), True), (("has", "ann", "write", "pay"), True),
                          (("option", "ann", "write", "pay"), False), (("option", "bob", "write", "pay"), True),
                          (("option", "ann", "read", "pay"), False), (("option", "dba", "read", "pay"), True),
                          (("act", "eve"), True), (("act", "bob"), False), (("use", "write", "pay"), True),
                          (("use", "call", "run"), False), (("use", "write", "key"), True), (("act", "ann"), True)]:
            self.assertIs(meets(goal=goal, extent=extent, system=system), met, goal)
        nobody = begin(system, [])
        self.assertIs(meets(system, nobody, ("use", "read", "pay")), False)
        self.assertIs(meets(system, nobody, ("has", "eve", "read", "pay")), True)


class GiversTest(unittest.TestCase):
    def test_givers_make_no_difference(self):
        things = office().things()
        one = System(things, given("dba ann read pay option, dba bob read pay option, ann eve read pay"))
        other = System(things, given("dba ann read pay option, dba bob read pay option, bob eve read pay"))
        self.assertEqual(rounds(one, ["eve"]), rounds(other, ["eve"]))


if __name__ == "__main__":
    unittest.main()
