"""Deeds are done: what they all have in common, gifts and calls [71] to [73]."""

import unittest

from rolereach.errors import CallFailed, Denied, InvalidDeed, InvalidSystem, Mismatch, MissingError, NotAdmitted
from rolereach.errors import RoleError, StateError, UnknownRole, UnknownThing
from rolereach.grants import Grant
from rolereach.running import do
from rolereach.systems import System
from rolereach.texts import system_text
from rolereach.things import Call, Deed, Function, Give, Make, Preset, Role, Table, Take, Use
from tests.plain_deeds import ROLES, Refused, outcome, plain_do, refusal, shop, some_deed
from tests.values import any_values, expect, expect_first
from tests.worlds import Dice, full_system, given, office


def keys(system):
    return [grant.key() for grant in system.grants()]


def denied(case, action, role, right, thing):
    """The action raises Denied with these three."""
    with case.assertRaises(Denied) as caught:
        action()
    error = caught.exception
    case.assertEqual([error.role, error.right, error.thing], [role, right, thing])


class DoTest(unittest.TestCase):
    def test_the_plain_reading_says_the_same(self):
        seen = {}
        for seed in range(1200):
            dice = Dice(seed)
            system, deed, role = shop(dice), None, None
            for _ in range(4):
                deed, role = some_deed(dice, system), dice.pick(ROLES)
                text = system_text(system)
                try:
                    expected = plain_do(system, role, deed)
                except Refused as refused:
                    with self.assertRaises((RoleError, MissingError, StateError)) as caught:
                        do(system, role, deed)
                    self.assertEqual(outcome(caught.exception), refusal(refused))
                    seen[refused.name] = True
                except (RoleError, MissingError, StateError) as error:
                    with self.assertRaises(type(error)) as caught:
                        do(system, role, deed)
                    self.assertEqual(outcome(caught.exception), outcome(error))
                    seen[type(error).__name__] = True
                else:
                    after = do(system, role, deed)
                    self.assertEqual(after, expected, str(deed))
                    self.assertEqual(system_text(system), text)
                    seen[type(deed).__name__] = True
                    system = after
        for name in ["Denied", "UnknownThing", "UnknownRole", "Mismatch", "NotAdmitted", "CallFailed", "NoGrant",
                     "Dependents", "NotOwner", "NameTaken", "Give", "Call", "Take", "Make", "Preset", "Use"]:
            self.assertIn(name, seen)

    def test_arguments(self):
        good = [office(), "dba", Give("read", "pay", "ann")]
        for value in any_values():
            if not isinstance(value, System):
                expect(self, InvalidSystem, "value", value, lambda: do(value, 1, 1))
            if value not in ROLES:
                expect(self, UnknownRole, "name", value, lambda: do(office(), value, 1))
            if not isinstance(value, Deed):
                expect(self, InvalidDeed, "value", value, lambda: do(office(), "dba", value))
        expect_first(self, do, good, [("system", InvalidSystem, "value"), ("pay", UnknownRole, "name"),
                                      (Role("dba", "dba"), InvalidDeed, "value")])
        self.assertEqual(keys(do(deed=good[2], role="dba", system=office())), [("dba", "ann", "read", "pay")])

    def test_the_base_class_is_no_deed(self):
        deed = Deed()
        expect(self, InvalidDeed, "value", deed, lambda: do(office(), "dba", deed))

    def test_an_equal_system_if_nothing_changes(self):
        system = office("dba ann read pay option")
        for deed in [Give("read", "pay", "ann"), Give("read", "pay", "dba"), Give("read", "pay", "caller"),
                     Preset("table", "read", "dba"), Use("write", "pay"), Call("run")]:
            self.assertEqual(do(system, "dba", deed), system)


class GiveTest(unittest.TestCase):
    def test_owners_and_roles_with_the_option_give(self):
        system = do(office(), "dba", Give("read", "pay", "ann", option=True))
        system = do(system, "ann", Give("read", "pay", "bob"))
        system = do(system, "ann", Give("read", "pay", "public"))
        self.assertEqual(keys(system), [("ann", "bob", "read", "pay"), ("ann", "public", "read", "pay"),
                                        ("dba", "ann", "read", "pay")])
        self.assertEqual([grant.option for grant in system.grants()], [False, False, True])

    def test_what_has_been_given_already(self):
        plain, more = office("dba ann read pay"), office("dba ann read pay option")
        self.assertEqual(do(plain, "dba", Give("read", "pay", "ann", option=True)), more)
        self.assertEqual(do(more, "dba", Give("read", "pay", "ann")), more)
        self.assertEqual(do(more, "dba", Give("read", "pay", "ann", option=True)), more)
        self.assertEqual(len(do(more, "ann", Give("read", "pay", "bob"))), 2)

    def test_caller_stands_for_the_role_that_does_it(self):
        system = office("dba ann read pay option")
        self.assertEqual(do(system, "ann", Give("read", "pay", "caller", option=True)), system)
        # But it is checked before: a table without the owner in its audience.
        hidden = System([Role("dba", "dba"), Table("pay", "dba", audience=[])])
        with self.assertRaises(NotAdmitted) as caught:
            do(hidden, "dba", Give("read", "pay", "caller"))
        self.assertEqual(caught.exception.taker, "dba")

    def test_giving_back_to_the_owner(self):
        system = do(office("dba ann read pay option"), "ann", Give("read", "pay", "dba", option=True))
        self.assertIn(Grant("ann", "dba", "read", "pay", option=True), system)

    def test_the_order_of_the_errors(self):
        system = office()
        expect(self, UnknownThing, "name", "zed", lambda: do(system, "ann", Give("read", "zed", "zed")))
        expect(self, Mismatch, "value", "call", lambda: do(system, "ann", Give("call", "pay", "zed")))
        expect(self, UnknownRole, "name", "pay", lambda: do(system, "ann", Give("read", "pay", "pay")))
        denied(self, lambda: do(system, "ann", Give("read", "key", "dba")), "ann", "read", "key")
        expect(self, NotAdmitted, "taker", "dba", lambda: do(system, "bob", Give("read", "key", "dba")))
        expect(self, NotAdmitted, "taker", "bob", lambda: do(system, "bob", Give("read", "key", "bob")))
        expect(self, NotAdmitted, "taker", "public", lambda: do(system, "bob", Give("read", "key", "public")))

    def test_without_the_option(self):
        for text in ["dba ann read pay", "dba public read pay", "dba ann write pay option",
                     "dba ann inherit dba option", "dba ann act dba option"]:
            denied(self, lambda: do(office(text), "ann", Give("read", "pay", "bob")), "ann", "read", "pay")
            denied(self, lambda: do(office(text), "ann", Give("read", "pay", "ann")), "ann", "read", "pay")

    def test_the_most_grants(self):
        system = full_system()
        self.assertEqual(do(system, "h", Give("read", "ta", "public")), system)
        self.assertEqual(len(do(system, "a", Take("read", "ta", "b", cascade=True))), len(system) - 1)


def bank(*functions, grants=""):
    """Three roles and a table of dba, and functions from tuples (name, owner, mode, body)."""
    things = [Role(name, "dba") for name in ["dba", "ann", "bob"]] + [Table("pay", "dba")]
    for name, owner, mode, body in functions:
        things.append(Function(name, owner, mode=mode, body=body))
    calls = [Grant(owner, "public", "call", name) for name, owner, _, _ in functions]
    return System(things, calls + given(grants))


def pay_grants(system):
    return [grant.key()[:2] for grant in system.grants() if grant.thing == "pay"]


class CallTest(unittest.TestCase):
    def test_modes(self):
        body = [Give("read", "pay", "caller", option=True)]
        system = bank(("f", "dba", "owner", body))
        self.assertEqual(pay_grants(do(system, "ann", Call("f"))), [("dba", "ann")])
        system = bank(("f", "dba", "caller", body + [Give("read", "pay", "bob")]), grants="dba ann read pay option")
        self.assertEqual(pay_grants(do(system, "ann", Call("f"))), [("ann", "bob"), ("dba", "ann")])
        with self.assertRaises(CallFailed) as caught:
            do(system, "bob", Call("f"))
        self.assertEqual(outcome(caught.exception),
                         ("CallFailed", ["f", 0], ("Denied", ["bob", "read", "pay"], None)))

    def test_caller_in_a_call_in_a_call(self):
        inner = ("g", "dba", "owner", [Give("read", "pay", "caller")])
        for mode, taker in [("owner", "bob"), ("caller", "ann")]:
            system = bank(inner, ("f", "bob", mode, [Call("g")]))
            self.assertEqual(pay_grants(do(system, "ann", Call("f"))), [("dba", taker)])

    def test_what_a_body_gives_counts_at_once(self):
        body = [Give("write", "pay", "caller", option=True), Give("call", "g", "caller"), Call("h")]
        system = bank(("g", "dba", "owner", [Give("read", "pay", "caller")]), ("h", "bob", "caller", [Call("g")]),
                      ("f", "dba", "owner", body))
        system = System(system.things(), given("dba public call f, bob public call h"))
        # dba calls h, and so g as itself, which gives nothing to itself.
        self.assertEqual(pay_grants(do(system, "ann", Call("f"))), [("dba", "ann")])
        self.assertEqual(pay_grants(do(do(system, "ann", Call("f")), "ann", Call("g"))), [("dba", "ann")] * 2)

    def test_a_chain_of_functions_each_of_which_opens_the_next_one(self):
        functions = [("f", "dba", "owner", [Give("read", "pay", "caller")])]
        for name, before in [("g", "f"), ("h", "g"), ("k", "h")]:
            functions.append((name, "dba", "owner", [Give("call", before, "caller")]))
        system = System(bank(*functions).things(), given("dba ann call k"))
        for name in ["f", "g", "h"]:
            denied(self, lambda: do(system, "ann", Call(name)), "ann", "call", name)
        for name in ["k", "h", "g", "f"]:
            system = do(system, "ann", Call(name))
        self.assertEqual(pay_grants(system), [("dba", "ann")])

    def test_a_late_deed_fails(self):
        body = [Give("read", "pay", "caller"), Give("write", "pay", "caller", option=True), Give("act", "ann", "bob")]
        system = bank(("g", "bob", "owner", body[2:]), ("f", "dba", "owner", body[:2] + [Call("g")]),
                      ("e", "dba", "owner", [Call("f")]))
        before = system_text(system)
        with self.assertRaises(CallFailed) as caught:
            do(system, "ann", Call("e"))
        self.assertEqual(outcome(caught.exception), (
            "CallFailed", ["e", 0], ("CallFailed", ["f", 2], ("CallFailed", ["g", 0],
                                                              ("Denied", ["bob", "act", "ann"], None)))))
        self.assertEqual(system_text(system), before)

    def test_the_audience_holds_in_bodies(self):
        things = [Role("dba", "dba"), Role("ann", "dba"), Table("pay", "dba", audience=["dba"]),
                  Function("f", "dba", body=[Give("read", "pay", "caller")])]
        system = System(things, given("dba ann call f"))
        with self.assertRaises(CallFailed) as caught:
            do(system, "ann", Call("f"))
        self.assertEqual(outcome(caught.exception), ("CallFailed", ["f", 0], ("NotAdmitted", ["ann"], None)))
        # The owner is admitted, and gives nothing to itself.
        self.assertEqual(do(system, "dba", Call("f")), system)

    def test_who_may_call(self):
        system = office("dba ann inherit bob, dba bob call run, dba eve act bob")
        for role in ["dba", "ann", "bob"]:
            self.assertEqual(do(system, role, Call("run")), system)
        denied(self, lambda: do(system, "eve", Call("run")), "eve", "call", "run")

    def test_no_function(self):
        for name in ["pay", "ann", "zed"]:
            expect(self, UnknownThing, "name", name, lambda: do(office(), "ann", Call(name)))

    def test_forty_steps(self):
        bodies = [("a", [Give("read", "pay", "caller")] * 4), ("b", [Call("a")] * 4),
                  ("c", [Call("b"), Call("a"), Call("a"), Call("a")]),
                  ("d", [Give("read", "pay", "bob")] * 3 + [Call("c")])]
        system = bank(*[(name, "dba", "caller", body) for name, body in bodies])
        self.assertEqual(system.steps("d"), 40)
        self.assertEqual(pay_grants(do(system, "dba", Call("d"))), [("dba", "bob")])
        with self.assertRaises(CallFailed) as caught:
            do(system, "ann", Call("c"))
        self.assertEqual([type(caught.exception.__cause__.__cause__.__cause__), caught.exception.index], [Denied, 0])


class MakeArgumentTest(unittest.TestCase):
    def test_all_six_classes_are_deeds(self):
        system = office("dba ann read pay")
        for deed in [Give("act", "ann", "bob"), Take("read", "pay", "ann"), Call("run"), Preset("table", "read", "ann"),
                     Use("read", "pay"), Make(Table("new", "dba"))]:
            self.assertIsInstance(do(system, "dba", deed), System)


if __name__ == "__main__":
    unittest.main()
