"""Systems made from systems [43], [44]."""

import unittest

from rolereach.errors import InvalidDefault, InvalidGrant, InvalidStep, InvalidSystem, InvalidThing, Mismatch, NameTaken
from rolereach.errors import TooLong, TooMany, UnknownRole, Unrooted
from rolereach.grants import Default, Grant
from rolereach.systems import System
from rolereach.things import Call, Function, Give, Role, Table
from tests.values import any_values, expect
from tests.worlds import Dice, full_system, full_things, given, office, plain_standing, possible_grants
from tests.worlds import random_grants, random_system, random_things

TEXT = "dba ann read pay option, ann bob read pay"
DEFAULTS = [Default("ann", "table", "read", "bob")]


def busy():
    return System(office().things(), given(TEXT), DEFAULTS)


class UnchangedTest(unittest.TestCase):
    """Each test works on one system, which stays as it was."""

    def setUp(self):
        self.system = busy()

    def tearDown(self):
        self.assertEqual(self.system, busy())
        self.assertEqual([len(self.system), self.system.names()], [2, office().names()])
        self.assertEqual([self.system.grants(), self.system.defaults()], [busy().grants(), DEFAULTS])


class WithThingTest(UnchangedTest):
    def test_the_last_thing(self):
        for thing in [Role("new", "ann"), Role("new", "new"), Table("new", "ann", audience=["eve"]),
                      Function("new", "bob", body=[Call("run"), Give("call", "new", "caller")])]:
            after = self.system.with_thing(thing)
            self.assertEqual(after, System(office().things() + [thing], given(TEXT), DEFAULTS))
            self.assertEqual([after.things()[-1], after.owner_of("new")], [thing, thing.owner])
        self.assertEqual(self.system.with_thing(thing=Table("new", "ann")).names("table"), ["pay", "key", "new"])
        self.assertEqual(System([]).with_thing(Role("ann", "ann")), System([Role("ann", "ann")]))

    def test_what_is_made_can_be_granted(self):
        after = self.system.with_thing(Role("new", "ann")).with_thing(Table("last", "new"))
        after = after.with_grant(Grant("new", "ann", "read", "last"))
        self.assertEqual(after, System(office().things() + [Role("new", "ann"), Table("last", "new")],
                                       given(TEXT + ", new ann read last"), DEFAULTS))

    def test_no_thing(self):
        for value in any_values():
            if not isinstance(value, (Role, Table, Function)):
                expect(self, InvalidThing, "value", value, lambda: self.system.with_thing(value))

    def test_taken_names(self):
        for name in office().names():
            for thing in [Role(name, "zed"), Table(name, "dba"), Function(name, "dba", body=[Call("zed")])]:
                expect(self, NameTaken, "name", thing.name, lambda: self.system.with_thing(thing))

    def test_too_many(self):
        full = System(full_things())
        for thing, count in [(Role("new", "zed"), 9), (Table("new", "zed"), 7), (Function("new", "zed"), 7)]:
            expect(self, TooMany, "count", count, lambda: full.with_thing(thing))
        expect(self, NameTaken, "name", "a", lambda: full.with_thing(Table("a", "a")))
        self.assertEqual(full, System(full_things()))

    def test_up_to_the_limits(self):
        system = System(full_things()[:1])
        for thing in full_things()[1:]:
            system = system.with_thing(thing)
        self.assertEqual(system, System(full_things()))
        seven = System(full_things()[:7])
        self.assertEqual(len(seven.with_thing(full_things()[7]).names()), 8)

    def test_roles_and_bodies(self):
        zed = Table("new", "zed", audience=["ned"])
        expect(self, UnknownRole, "name", zed.owner, lambda: self.system.with_thing(zed))
        with self.assertRaises(UnknownRole) as caught:
            self.system.with_thing(Table("new", "ann", audience=["zed", "ann", "ned"]))
        self.assertEqual(caught.exception.name, "ned")
        with self.assertRaises(UnknownRole) as caught:
            self.system.with_thing(Table("new", "new"))
        self.assertEqual(caught.exception.name, "new")
        self.system.with_thing(Role("new", "new", audience=["new"]))
        for deed in [Call("new"), Call("pay"), Give("read", "zed", "ann"), Give("act", "pay", "ann")]:
            with self.assertRaises(InvalidStep) as caught:
                self.system.with_thing(Function("new", "ann", body=[Call("run"), deed]))
            self.assertEqual([caught.exception.name, caught.exception.index], ["new", 1])

    def test_too_long(self):
        system = self.system.with_thing(Function("a", "ann", body=[Call("run")] * 4))
        system = system.with_thing(Function("b", "ann", body=[Call("a")] * 4))
        last = Function("c", "ann", body=[Call("b"), Call("b"), Call("run")])
        expect(self, TooLong, "count", 43, lambda: system.with_thing(last))
        self.assertEqual(system.with_thing(Function("c", "ann", body=[Call("b"), Call("a")])).steps("c"), 26)


class WithGrantTest(UnchangedTest):
    def test_a_new_grant(self):
        for text in ["dba bob read pay", "ann eve read pay option", "ann public read pay", "bob ann read key",
                     "ann dba read pay", "dba ann act ann"]:
            after = self.system.with_grant(given(text)[0])
            self.assertEqual(after, System(office().things(), given(TEXT + ", " + text), DEFAULTS))
            self.assertEqual([len(after), given(text)[0] in after], [3, True])

    def test_the_option_of_either(self):
        for old in [False, True]:
            for new in [False, True]:
                system = office("dba ann read pay" + " option" * old)
                after = system.with_grant(Grant("dba", "ann", "read", "pay", option=new))
                self.assertEqual(after.grants(), [Grant("dba", "ann", "read", "pay", option=old or new)])
                self.assertIs(after.option_of("dba", "ann", "read", "pay"), old or new)
                self.assertIs(system.option_of("dba", "ann", "read", "pay"), old)
                self.assertIsNot(after, system)

    def test_an_option_that_came_later_can_be_given_further(self):
        after = self.system.with_grant(grant=Grant("ann", "bob", "read", "pay", option=True))
        after = after.with_grant(Grant("bob", "eve", "read", "pay"))
        self.assertEqual(after, System(office().things(), given(
            "dba ann read pay option, ann bob read pay option, bob eve read pay"), DEFAULTS))

    def test_no_grant_of_this_system(self):
        bad = ["zed ann read pay", "dba zed read pay", "dba ann read zed", "dba ann act pay", "dba ann call key",
               "bob dba read key", "bob public read key", "pay ann read pay", "dba run read pay"]
        others = [value for value in any_values() if not isinstance(value, Grant)]
        for value in others + [given(text)[0] for text in bad]:
            expect(self, InvalidGrant, "value", value, lambda: self.system.with_grant(value))

    def test_grants_that_would_not_stand(self):
        for text in ["bob eve read pay", "ann bob write pay", "eve ann read pay option", "ann eve read key",
                     "dba ann read key", "ann eve act ann"]:
            grant = given(text)[0]
            expect(self, Unrooted, "value", grant, lambda: self.system.with_grant(grant))
        # What is granted to public is never granted with the option.
        grant = Grant("ann", "bob", "read", "pay")
        expect(self, Unrooted, "value", grant, lambda: office("dba public read pay").with_grant(grant))

    def test_grant_by_grant(self):
        for seed in range(80):
            dice = Dice(seed)
            things = random_things(dice)
            grants = plain_standing(things, random_grants(dice, things, 14))
            system = System(things)
            for grant in grants:
                system = system.with_grant(grant)
            self.assertEqual(system, System(things, grants))
            for grant in possible_grants(things):
                stands = grant in plain_standing(things, grants + [grant])
                if stands:
                    self.assertIn(grant, system.with_grant(grant))
                else:
                    expect(self, Unrooted, "value", grant, lambda: system.with_grant(grant))


class WithDefaultTest(UnchangedTest):
    def test_a_new_default(self):
        for default in [Default("dba", "table", "read", "bob"), Default("ann", "table", "write", "bob", option=True),
                        Default("ann", "function", "call", "public"), Default("ann", "table", "read", "public")]:
            after = self.system.with_default(default)
            self.assertEqual(after, System(office().things(), given(TEXT), DEFAULTS + [default]))
        self.assertEqual(len(self.system.with_default(default=DEFAULTS[0]).defaults()), 1)

    def test_the_option_of_either(self):
        for old in [False, True]:
            for new in [False, True]:
                system = System(office().things(), [], [Default("ann", "table", "read", "bob", option=old)])
                after = system.with_default(Default("ann", "table", "read", "bob", option=new))
                self.assertEqual(after.defaults(), [Default("ann", "table", "read", "bob", option=old or new)])
                self.assertEqual(system.defaults()[0].option, old)
                self.assertIsNot(after, system)

    def test_no_default_of_this_system(self):
        for value in any_values() + [Default("zed", "table", "read", "ann"), Default("ann", "table", "read", "zed"),
                                     Default("pay", "table", "read", "ann"), Default("ann", "table", "read", "run")]:
            if value != DEFAULTS[0]:
                expect(self, InvalidDefault, "value", value, lambda: self.system.with_default(value))


class JoinedTest(UnchangedTest):
    def test_grants_and_defaults_of_either(self):
        other = System(office().things(), given("dba ann read pay, dba eve write pay"),
                       [Default("ann", "table", "read", "bob", option=True), Default("bob", "table", "read", "ann")])
        expected = System(office().things(), given(TEXT + ", dba eve write pay"), other.defaults())
        self.assertEqual([self.system.joined(other), other.joined(self.system)], [expected, expected])
        self.assertEqual(self.system.joined(other=self.system), self.system)
        self.assertIsNot(self.system.joined(self.system), self.system)
        self.assertEqual(self.system.joined(office()), self.system)
        self.assertEqual(office().joined(self.system), self.system)

    def test_options_of_either_are_given_further(self):
        joined = self.system.joined(office("dba bob read pay option, bob eve read pay"))
        self.assertIn(Grant("bob", "dba", "read", "pay"), joined.with_grant(Grant("bob", "dba", "read", "pay")))
        with self.assertRaises(Unrooted):
            joined.with_grant(Grant("eve", "dba", "read", "pay"))

    def test_no_system(self):
        for value in any_values():
            if not isinstance(value, System):
                expect(self, InvalidSystem, "value", value, lambda: self.system.joined(value))

    def test_other_things(self):
        things = office().things()
        for others in [[], things[:-1], list(reversed(things)), things + [Table("new", "dba")],
                       things[:-1] + [Function("run", "ann")]]:
            other = System(others)
            expect(self, Mismatch, "value", other, lambda: self.system.joined(other))

    def test_many(self):
        for seed in range(60):
            dice = Dice(seed)
            things = random_things(dice)
            one = System(things, plain_standing(things, random_grants(dice, things, 8)))
            other = System(things, plain_standing(things, random_grants(dice, things, 8)))
            joined = one.joined(other)
            self.assertEqual([one <= joined, other <= joined, joined == other.joined(one)], [True] * 3)
            for grant in joined.grants():
                self.assertTrue(grant in one or grant in other)
            self.assertEqual(joined, System(things, joined.grants()))


class ManyGrantsTest(unittest.TestCase):
    def test_the_most_grants(self):
        full = full_system()
        again = System(full.things())
        for grant in full.grants():
            if grant.giver == "a":
                again = again.with_grant(grant)
        self.assertEqual(len(again), 34 * 8)
        for grant in full.grants()[::8]:
            again = again.with_grant(grant)
        self.assertEqual([again <= full, full <= again, again.joined(full) == full], [True, False, True])
        self.assertEqual(full.with_grant(full.grants()[5]), full)

    def test_systems_in_any_order(self):
        for seed in range(20):
            system = random_system(seed)
            self.assertEqual(System(system.things(), list(reversed(system.grants()))), system)


if __name__ == "__main__":
    unittest.main()
