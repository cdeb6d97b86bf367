"""Who holds and who has which right [61], [64]."""

import unittest

from rolereach.access import Access, barrier, has, holds, inherited, is_barrier, is_reason, reason
from rolereach.errors import InvalidFlag, InvalidRight, InvalidSystem, Mismatch, UnknownRole, UnknownThing
from rolereach.systems import System
from rolereach.things import Function, Role, Table
from tests.values import any_values, expect, expect_first, without
from tests.worlds import RIGHTS, full_system, given, office, plain_has, plain_holds, plain_inherited, questions
from tests.worlds import random_system

QUESTIONS = [
    holds, has, reason, barrier,
    lambda system, role, right, thing: is_reason(system, role, right, thing, None),
    lambda system, role, right, thing: is_barrier(system, role, right, thing, None),
    lambda system, role, right, thing: holds(system, role, right, thing, option=None),
]


class QuestionsTest(unittest.TestCase):
    """The exceptions of a role, a right and a thing."""

    def test_no_system(self):
        for value in any_values():
            if not isinstance(value, System):
                for call in QUESTIONS:
                    expect(self, InvalidSystem, "value", value, lambda: call(value, "ann", "read", "pay"))
                expect(self, InvalidSystem, "value", value, lambda: inherited(value, value))
                expect(self, InvalidSystem, "value", value, lambda: Access(value))

    def test_no_role(self):
        for value in without(any_values() + ["pay", "run", "an", "annn"], ["ann", "bob"]):
            for call in QUESTIONS + [Access(office())]:
                given_system = [] if isinstance(call, Access) else [office()]
                expect(self, UnknownRole, "name", value, lambda: call(*given_system, value, "read", "pay"))
            expect(self, UnknownRole, "name", value, lambda: inherited(office(), value))

    def test_no_right(self):
        for value in without(any_values(), RIGHTS):
            for call in QUESTIONS:
                expect(self, InvalidRight, "value", value, lambda: call(office(), "ann", value, "pay"))
            expect(self, InvalidRight, "value", value, lambda: Access(office())("ann", value, "pay"))

    def test_no_thing(self):
        for value in without(any_values() + ["payy"], ["ann", "bob"]):
            if value != "pay":
                for call in QUESTIONS:
                    expect(self, UnknownThing, "name", value, lambda: call(office(), "ann", "read", value))
                expect(self, UnknownThing, "name", value, lambda: Access(office())("ann", "read", value))

    def test_a_right_of_another_kind(self):
        for right, thing in [("inherit", "pay"), ("act", "run"), ("read", "ann"), ("write", "run"), ("call", "key")]:
            for call in QUESTIONS:
                expect(self, Mismatch, "value", right, lambda: call(office(), "ann", right, thing))
            expect(self, Mismatch, "value", right, lambda: Access(office())("ann", right, thing))

    def test_the_first_wrong_argument_is_due(self):
        bad = [(office().names, InvalidSystem, "value"), ("zed", UnknownRole, "name"), ([], InvalidRight, "value"),
               ({}, UnknownThing, "name")]
        for call in QUESTIONS:
            expect_first(self, call, [office(), "ann", "read", "pay"], bad)
        expect_first(self, Access(office()), ["ann", "read", "pay"], bad[1:])
        expect_first(self, inherited, [office(), "ann"], bad[:2])

    def test_the_option_comes_last(self):
        for value in without(any_values(), [True, False]):
            expect(self, InvalidFlag, "value", value, lambda: holds(office(), "ann", "read", "pay", option=value))
        expect(self, Mismatch, "value", "act", lambda: holds(office(), "ann", "act", "pay", option=1))

    def test_arguments_by_name(self):
        system = office("dba ann read pay")
        named = {"thing": "pay", "right": "read", "role": "ann"}
        self.assertEqual([holds(system=system, **named), has(system=system, **named), Access(system=system)(**named)],
                         [True] * 3)
        self.assertIs(holds(system=system, option=True, **named), False)
        self.assertEqual(inherited(role="ann", system=system), ["ann"])
        self.assertEqual([len(reason(system=system, **named)), barrier(system=system, **named)], [1, None])
        self.assertEqual([is_reason(value=[], system=system, **named), is_barrier(roles=[], system=system, **named)],
                         [False, False])
        with self.assertRaises(TypeError):
            holds(system, "ann", "read", "pay", True)


class HoldsTest(unittest.TestCase):
    def check(self, text, role, right, thing, expected):
        system = office(text)
        self.assertIs(holds(system, role, right, thing), expected[0])
        self.assertIs(holds(system, role, right, thing, option=False), expected[0])
        self.assertIs(holds(system, role, right, thing, option=True), expected[1])

    def test_owners(self):
        self.check("", "dba", "read", "pay", (True, True))
        self.check("", "dba", "act", "dba", (True, True))
        self.check("", "ann", "act", "ann", (False, False))
        self.check("", "bob", "write", "key", (True, True))
        self.check("", "dba", "write", "key", (False, False))

    def test_grants(self):
        self.check("dba ann read pay", "ann", "read", "pay", (True, False))
        self.check("dba ann read pay", "bob", "read", "pay", (False, False))
        self.check("dba ann read pay", "ann", "write", "pay", (False, False))
        self.check("dba ann read pay option", "ann", "read", "pay", (True, True))
        self.check("dba ann read pay option, ann bob read pay", "bob", "read", "pay", (True, False))

    def test_public(self):
        for role in ["ann", "bob", "eve"]:
            self.check("dba public read pay", role, "read", "pay", (True, False))
        self.check("dba public read pay, dba ann read pay option", "ann", "read", "pay", (True, True))
        self.check("dba public read pay", "dba", "read", "pay", (True, True))

    def test_the_option_of_one_of_several_grants(self):
        text = "dba ann read pay option, dba bob read pay, ann bob read pay option"
        self.check(text, "bob", "read", "pay", (True, True))
        text = "dba ann read pay option, ann bob read pay option, dba bob read pay, bob eve read pay, dba eve read pay"
        self.check(text, "bob", "read", "pay", (True, True))
        self.check(text, "eve", "read", "pay", (True, False))

    def test_what_is_inherited_is_not_held(self):
        self.check("dba ann inherit bob, dba bob read pay option", "ann", "read", "pay", (False, False))


class InheritedTest(unittest.TestCase):
    def test_the_order_is_that_of_the_system(self):
        things = [Role(name, "z") for name in ["z", "c", "a", "b"]]
        system = System(things, given("z a inherit b, z b inherit c"))
        self.assertEqual([inherited(system, role) for role in "zcab"],
                         [["z", "c", "a", "b"], ["c"], ["c", "a", "b"], ["c", "b"]])

    def test_circles(self):
        system = office("dba ann inherit bob, dba bob inherit eve, dba eve inherit ann")
        for role in ["ann", "bob", "eve"]:
            self.assertEqual(inherited(system, role), ["ann", "bob", "eve"])
        self.assertEqual(inherited(office("dba ann inherit ann"), "ann"), ["ann"])

    def test_ownership_and_public(self):
        system = System([Role("dba", "dba"), Role("ann", "bob"), Role("bob", "eve"), Role("eve", "eve")])
        self.assertEqual([inherited(system, role) for role in system.names()],
                         [["dba"], ["ann"], ["ann", "bob"], ["ann", "bob", "eve"]])
        self.assertEqual(inherited(office("dba public inherit bob"), "eve"), ["bob", "eve"])

    def test_act_does_not_count(self):
        self.assertEqual(inherited(office("dba ann act bob"), "ann"), ["ann"])

    def test_a_new_list_each_time(self):
        system = office()
        inherited(system, "dba").clear()
        self.assertEqual(inherited(system, "dba"), ["dba", "ann", "bob", "eve"])


class HasTest(unittest.TestCase):
    def test_through_roles(self):
        text = "dba ann inherit bob, dba bob inherit eve, dba eve read pay"
        for role in ["ann", "bob", "eve"]:
            self.assertIs(has(office(text), role, "read", "pay"), True)
            self.assertIs(has(office(text), role, "write", "pay"), False)
        self.assertIs(has(office("dba ann act bob, dba bob read pay"), "ann", "read", "pay"), False)
        # What the inherited role owns counts, too.
        self.assertIs(has(office("dba ann inherit bob"), "ann", "write", "key"), True)
        self.assertIs(has(office("dba bob inherit ann"), "ann", "write", "key"), False)

    def test_all_questions(self):
        for seed in range(120):
            system = random_system(seed, 16)
            access = Access(system)
            for role in system.names("role"):
                self.assertEqual(sorted(inherited(system, role)), sorted(plain_inherited(system, role)))
            for question in questions(system):
                self.assertIs(holds(system, *question), plain_holds(system, *question))
                self.assertIs(holds(system, *question, option=True), plain_holds(system, *question, option=True))
                self.assertIs(has(system, *question), plain_has(system, *question))
                self.assertIs(access(*question), has(system, *question))
                self.assertIs(question in access, has(system, *question))


class AccessTest(unittest.TestCase):
    def test_rows(self):
        things = [Table("pay", "b"), Role("b", "b"), Function("run", "a"), Role("a", "b")]
        access = Access(System(things, given("b a read pay")))
        self.assertEqual(access.rows(), [
            ("b", "read", "pay"), ("b", "write", "pay"), ("b", "inherit", "b"), ("b", "act", "b"), ("b", "call", "run"),
            ("b", "inherit", "a"), ("b", "act", "a"), ("a", "read", "pay"), ("a", "call", "run")])
        self.assertEqual(len(access), 9)

    def test_rows_of_all_systems(self):
        for seed in range(60):
            system = random_system(seed, 10)
            access = Access(system)
            rows = [question for question in questions(system) if has(system, *question)]
            self.assertEqual([access.rows(), len(access)], [rows, len(rows)])
            self.assertTrue(all(type(row) is tuple for row in access.rows()))

    def test_in(self):
        access = Access(office("dba ann read pay"))
        self.assertIs(("ann", "read", "pay") in access, True)
        for value in any_values() + [
                ["ann", "read", "pay"], ("ann", "read"), ("ann", "read", "pay", "pay"), ("ann", "write", "pay"),
                ("zed", "read", "pay"), ("ann", "no", "pay"), ("ann", "read", "zed"), ("ann", "act", "pay"),
                (("ann", "read", "pay"),), "ann read pay", ("ann", "read", ["pay"]), ("ann", True, "pay"), ()]:
            self.assertIs(value in access, False)
            self.assertIs(("ann", "read", value) in access, False)
            self.assertIs((value, "read", "pay") in access, value == "ann")

    def test_the_list_is_new_each_time(self):
        access = Access(office())
        access.rows().clear()
        self.assertEqual(len(access.rows()), len(access))
        self.assertIsNot(access.rows(), access.rows())
        self.assertIsInstance(repr(access), str)

    def test_an_access_equals_only_itself(self):
        system = office()
        access = Access(system)
        self.assertEqual([access == access, access == Access(system), access != Access(system)], [True, False, True])

    def test_no_things(self):
        access = Access(System([]))
        self.assertEqual([access.rows(), len(access), ("a", "act", "a") in access], [[], 0, False])

    def test_the_most_grants(self):
        system = full_system()
        access = Access(system)
        self.assertEqual(len(access), 8 * 34)
        self.assertEqual([has(system, role, "call", "ff") for role in "abcdefgh"], [True] * 8)
        self.assertEqual([len(inherited(system, role)) for role in "abcdefgh"], [8] * 8)
        self.assertEqual(Access(System([Role("a", "a"), Table("t", "a")])).rows(),
                         [("a", "inherit", "a"), ("a", "act", "a"), ("a", "read", "t"), ("a", "write", "t")])


if __name__ == "__main__":
    unittest.main()
