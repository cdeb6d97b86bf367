"""Grants are taken, things are made, defaults are preset, and rights are used [74] to [76]."""

import unittest

from rolereach.errors import Denied, Dependents, InvalidStep, Mismatch, NameTaken, NoGrant, NotAdmitted, NotOwner
from rolereach.errors import TooLong, TooMany, UnknownRole, UnknownThing
from rolereach.grants import Default, Grant
from rolereach.running import do
from rolereach.standing import without
from rolereach.systems import System
from rolereach.things import Call, Function, Give, Make, Preset, Table, Take, Use
from tests.test_running import denied, keys
from tests.values import expect
from tests.worlds import full_things, given, office

CHAIN = "dba ann read pay option, ann bob read pay option, bob eve read pay, dba eve act bob"


class TakeTest(unittest.TestCase):
    def test_a_grant_that_nothing_rests_on(self):
        system = office(CHAIN)
        for deed, role in [(Take("read", "pay", "eve"), "bob"), (Take("read", "pay", "eve", giver="bob"), "bob"),
                           (Take("read", "pay", "eve", giver="bob"), "dba"),
                           (Take("read", "pay", "eve", giver="bob", cascade=True), "bob")]:
            self.assertEqual(do(system, role, deed),
                             office("dba ann read pay option, ann bob read pay option, dba eve act bob"))

    def test_what_others_rest_on(self):
        system = office(CHAIN)
        with self.assertRaises(Dependents) as caught:
            do(system, "dba", Take("read", "pay", "ann"))
        self.assertEqual(caught.exception.value, given("ann bob read pay option, bob eve read pay"))
        with self.assertRaises(Dependents) as again:
            do(system, "dba", Take("read", "pay", "ann"))
        self.assertIsNot(again.exception.value, caught.exception.value)
        self.assertEqual(type(caught.exception.value), list)
        self.assertEqual(do(system, "dba", Take("read", "pay", "ann", cascade=True)), office("dba eve act bob"))

    def test_only_the_option(self):
        system = office(CHAIN)
        with self.assertRaises(Dependents) as caught:
            do(system, "ann", Take("read", "pay", "bob", only_option=True))
        self.assertEqual(caught.exception.value, given("bob eve read pay"))
        after = do(system, "ann", Take("read", "pay", "bob", only_option=True, cascade=True))
        self.assertEqual(after, office("dba ann read pay option, ann bob read pay, dba eve act bob"))
        for cascade in [False, True]:
            deed = Take("read", "pay", "eve", only_option=True, cascade=cascade)
            self.assertEqual(do(system, "bob", deed), system)
        # Another grant still supports what bob gave.
        twice = office(CHAIN + ", dba bob read pay option")
        self.assertEqual(len(do(twice, "ann", Take("read", "pay", "bob", only_option=True))), 5)

    def test_it_is_what_without_returns(self):
        system = office(CHAIN)
        for grant in system.grants():
            for only_option in [False, True]:
                deed = Take(grant.right, grant.thing, grant.taker, giver=grant.giver, only_option=only_option,
                            cascade=True)
                self.assertEqual(do(system, grant.giver, deed), without(system, [grant], only_option=only_option)[0])

    def test_who_may_take(self):
        system = office("dba ann read pay option, ann bob read pay option, bob public read pay")
        # The owner of the thing takes what others gave, also to public; a role on the way does not.
        self.assertEqual(len(do(system, "dba", Take("read", "pay", "public", giver="bob"))), 2)
        denied(self, lambda: do(system, "ann", Take("read", "pay", "public", giver="bob")), "ann", "read", "pay")
        denied(self, lambda: do(system, "bob", Take("read", "pay", "bob", giver="ann")), "bob", "read", "pay")
        # Without a giver it is the role itself that must have given.
        expect_no_grant(self, lambda: do(system, "dba", Take("read", "pay", "public")), ("dba", "public", "read",
                                                                                         "pay"))
        # The own grant may be taken by a role that neither owns nor holds anything any more.
        self.assertEqual(len(do(system, "bob", Take("read", "pay", "public"))), 2)

    def test_no_grant(self):
        system = office("dba ann read pay")
        for deed, key in [(Take("write", "pay", "ann"), ("dba", "ann", "write", "pay")),
                          (Take("read", "pay", "bob"), ("dba", "bob", "read", "pay")),
                          (Take("read", "pay", "dba"), ("dba", "dba", "read", "pay")),
                          (Take("read", "pay", "ann", giver="bob"), ("bob", "ann", "read", "pay")),
                          (Take("read", "pay", "public", only_option=True), ("dba", "public", "read", "pay"))]:
            expect_no_grant(self, lambda: do(system, "dba", deed), key)

    def test_the_order_of_the_errors(self):
        system = office("dba ann read pay option, ann bob read pay")
        expect(self, UnknownThing, "name", "zed", lambda: do(system, "eve", Take("call", "zed", "zed", giver="zed")))
        expect(self, Mismatch, "value", "call", lambda: do(system, "eve", Take("call", "pay", "zed", giver="zed")))
        expect(self, UnknownRole, "name", "run", lambda: do(system, "eve", Take("read", "pay", "run", giver="zed")))
        expect(self, UnknownRole, "name", "pay", lambda: do(system, "eve", Take("read", "pay", "bob", giver="pay")))
        denied(self, lambda: do(system, "eve", Take("read", "pay", "eve", giver="dba")), "eve", "read", "pay")
        expect_no_grant(self, lambda: do(system, "dba", Take("read", "pay", "eve")), ("dba", "eve", "read", "pay"))
        with self.assertRaises(Dependents):
            do(system, "dba", Take("read", "pay", "ann"))


def expect_no_grant(case, action, key):
    with case.assertRaises(NoGrant) as caught:
        action()
    case.assertEqual([type(caught.exception.value), caught.exception.value], [tuple, key])


class MakeTest(unittest.TestCase):
    def test_the_thing_is_the_last_one(self):
        system = office(CHAIN)
        body = [Give("act", "ann", "caller"), Call("run")]
        for thing in [Table("new", "ann"), Function("new", "ann", mode="caller", body=body)]:
            after = do(system, "ann", Make(thing))
            self.assertEqual([after.things(), after.grants()], [system.things() + [thing], system.grants()])

    def test_defaults(self):
        defaults = [Default("dba", "table", "write", "ann", option=True), Default("dba", "table", "read", "public"),
                    Default("dba", "function", "call", "bob"), Default("ann", "table", "read", "eve")]
        system = System(office().things(), (), defaults)
        self.assertEqual(do(system, "dba", Make(Table("new", "dba"))).grants(),
                         given("dba public read new, dba ann write new option"))
        self.assertEqual(keys(do(system, "dba", Make(Function("new", "dba")))), [("dba", "bob", "call", "new")])
        self.assertEqual(keys(do(system, "ann", Make(Table("new", "ann")))), [("ann", "eve", "read", "new")])
        self.assertEqual(keys(do(system, "ann", Make(Function("new", "ann")))), [])
        self.assertEqual(do(system, "dba", Make(Table("new", "dba"))).defaults(), system.defaults())

    def test_an_audience_that_does_not_admit_a_default(self):
        system = System(office().things(), (), [Default("dba", "table", "read", "eve"),
                                                Default("dba", "table", "read", "bob"),
                                                Default("dba", "table", "write", "ann")])
        for audience, taker in [(["ann"], "bob"), (["ann", "bob"], "eve"), (["eve", "bob"], "ann"), ([], "bob")]:
            expect(self, NotAdmitted, "taker", taker,
                   lambda: do(system, "dba", Make(Table("new", "dba", audience=audience))))
        self.assertEqual(len(do(system, "dba", Make(Table("new", "dba", audience=["ann", "bob", "eve"])))), 3)
        # Defaults for another kind or of another role do not count.
        self.assertEqual(len(do(system, "dba", Make(Function("new", "dba", audience=[])))), 0)
        self.assertEqual(len(do(system, "ann", Make(Table("new", "ann", audience=[])))), 0)

    def test_the_order_of_the_errors(self):
        system = System(office().things(), (), [Default("dba", "function", "call", "bob")])
        expect(self, NotOwner, "owner", "ann", lambda: do(system, "dba", Make(Table("pay", "ann"))))
        expect(self, NotOwner, "owner", "zed", lambda: do(system, "dba", Make(Table("new", "zed"))))
        expect(self, NameTaken, "name", "pay", lambda: do(system, "dba", Make(Table("pay", "dba", audience=["zed"]))))
        expect(self, UnknownRole, "name", "zed", lambda: do(system, "dba", Make(Table("new", "dba", audience=["zed"]))))
        for body, index in [([Call("new")], 0), ([Call("run"), Call("pay")], 1), ([Give("read", "run", "ann")], 0)]:
            with self.assertRaises(InvalidStep) as caught:
                do(system, "dba", Make(Function("new", "dba", audience=[], body=body)))
            self.assertEqual([caught.exception.name, caught.exception.index], ["new", index])
        expect(self, NotAdmitted, "taker", "bob", lambda: do(system, "dba", Make(Function("new", "dba", audience=[]))))
        # A function may give rights on itself.
        itself = Function("new", "dba", body=[Give("call", "new", "ann")])
        self.assertEqual(do(office(), "dba", Make(itself)).things()[-1], itself)

    def test_one_more_at_the_limits(self):
        system = System(full_things())
        expect(self, TooMany, "count", 7, lambda: do(system, "a", Make(Table("new", "a", audience=["zed"]))))
        expect(self, TooMany, "count", 7, lambda: do(system, "a", Make(Function("new", "a"))))
        without_one = System(full_things()[:-1])
        self.assertEqual(len(do(without_one, "a", Make(Function("new", "a"))).things()), 20)
        expect(self, TooMany, "count", 7, lambda: do(without_one, "a", Make(Table("new", "a"))))

    def test_too_long(self):
        steps = Function("one", "dba", body=[Call("run")] * 4)
        system = office()
        for thing in [steps, Function("two", "dba", body=[Call("one")] * 4)]:
            system = do(system, "dba", Make(thing))
        expect(self, TooLong, "count", 44, lambda: do(
            system, "dba", Make(Function("new", "dba", body=[Call("two"), Call("two"), Call("run"), Call("run")]))))


class PresetTest(unittest.TestCase):
    def test_presets(self):
        system = do(office(), "ann", Preset("table", "read", "bob"))
        self.assertEqual(system.defaults(), [Default("ann", "table", "read", "bob")])
        system = do(system, "ann", Preset("table", "read", "bob", option=True))
        self.assertEqual(system.defaults(), [Default("ann", "table", "read", "bob", option=True)])
        self.assertEqual(do(system, "ann", Preset("table", "read", "bob")), system)
        more = do(system, "bob", Preset("function", "call", "public"))
        self.assertEqual(len(more.defaults()), 2)
        self.assertEqual(keys(more), [])

    def test_presets_for_oneself(self):
        self.assertEqual(do(office(), "ann", Preset("table", "read", "ann", option=True)), office())

    def test_no_taker(self):
        for taker in ["zed", "pay", "run"]:
            expect(self, UnknownRole, "name", taker, lambda: do(office(), "ann", Preset("table", "read", taker)))

    def test_they_work_on_the_next_thing(self):
        system = do(office("dba ann read pay"), "ann", Preset("table", "write", "public"))
        system = do(system, "ann", Make(Table("new", "ann")))
        self.assertIn(Grant("ann", "public", "write", "new"), system)
        self.assertEqual(len(system), 2)

    def test_all_defaults(self):
        system = System(full_things())
        for maker in "abcdefgh":
            for taker in ["a", "b", "c", "d", "e", "f", "g", "h", "public"]:
                for kind, right in [("table", "read"), ("table", "write"), ("function", "call")]:
                    system = do(system, maker, Preset(kind, right, taker))
        self.assertEqual(len(system.defaults()), 192)


class UseTest(unittest.TestCase):
    def test_who_may_use(self):
        system = office("dba ann inherit bob, dba bob read pay, dba eve act ann, dba public call run")
        for role, right, thing in [("dba", "read", "pay"), ("ann", "read", "pay"), ("bob", "read", "pay"),
                                   ("eve", "call", "run"), ("ann", "write", "key"), ("eve", "act", "ann"),
                                   ("dba", "inherit", "dba")]:
            self.assertEqual(do(system, role, Use(right, thing)), system)
        denied(self, lambda: do(system, "eve", Use("read", "pay")), "eve", "read", "pay")
        denied(self, lambda: do(system, "bob", Use("inherit", "bob")), "bob", "inherit", "bob")

    def test_the_order_of_the_errors(self):
        expect(self, UnknownThing, "name", "zed", lambda: do(office(), "eve", Use("call", "zed")))
        expect(self, Mismatch, "value", "call", lambda: do(office(), "eve", Use("call", "pay")))
        with self.assertRaises(Denied):
            do(office(), "eve", Use("write", "pay"))


if __name__ == "__main__":
    unittest.main()
