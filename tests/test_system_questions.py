"""What a system tells of itself [42]."""

import itertools
import unittest

from rolereach.errors import InvalidKind, InvalidSystem, UnknownThing
from rolereach.extents import Extent
from rolereach.grants import Default, Grant
from rolereach.systems import System
from rolereach.things import Call, Function, Role, Table
from tests.values import any_values, expect, without
from tests.worlds import full_system, given, office, possible_grants, random_system

KINDS = ["role", "table", "function"]
TEXT = "dba ann read pay option, ann bob read pay, dba public write pay, bob ann read key, dba ann act bob"


class ThingsTest(unittest.TestCase):
    def test_things_and_names(self):
        system = office(TEXT)
        names = ["dba", "ann", "bob", "eve", "pay", "key", "run"]
        self.assertEqual([thing.name for thing in system.things()], names)
        self.assertEqual([system.names(), system.names(None), system.names(kind=None)], [names] * 3)
        self.assertEqual([system.names(kind) for kind in KINDS], [names[:4], names[4:6], names[6:]])
        self.assertEqual(system.names(kind="table"), ["pay", "key"])

    def test_the_order_is_kept(self):
        things = [Table("z", "b"), Role("b", "a"), Function("m", "a"), Role("a", "a"), Table("c", "a")]
        system = System(things)
        self.assertEqual(system.things(), things)
        self.assertEqual([system.names(), system.names("role"), system.names("table")],
                         [["z", "b", "m", "a", "c"], ["b", "a"], ["z", "c"]])
        self.assertEqual([System([]).names(kind) for kind in KINDS], [[], [], []])

    def test_no_kind(self):
        for value in without(any_values() + ["roles", "Role"], KINDS + [None]):
            expect(self, InvalidKind, "value", value, lambda: office().names(value))

    def test_thing_of_and_owner_of(self):
        system = office(TEXT)
        for thing in system.things():
            self.assertEqual(system.thing_of(thing.name), thing)
            self.assertEqual(system.owner_of(thing.name), thing.owner)
        self.assertEqual([system.thing_of(name="key").audience, system.owner_of(name="key")], [["ann", "eve"], "bob"])

    def test_unknown_things(self):
        for value in without(any_values() + ["pa", "payy", "Pay"], ["ann", "bob"]):
            if value != "pay":
                expect(self, UnknownThing, "name", value, lambda: office().thing_of(value))
                expect(self, UnknownThing, "name", value, lambda: office().owner_of(value))

    def test_steps(self):
        system = System(office().things() + [Function("go", "dba", body=[Call("run"), Call("run")])])
        self.assertEqual([system.steps("run"), system.steps(name="go")], [0, 2])
        for value in any_values() + ["pay", "ann", "g"]:
            expect(self, UnknownThing, "name", value, lambda: system.steps(value))


class GrantsTest(unittest.TestCase):
    def test_grants_are_ascending(self):
        self.assertEqual(office(TEXT).grants(), given(
            "dba ann act bob, bob ann read key, ann bob read pay, dba ann read pay option, dba public write pay"))
        for seed in range(40):
            system = random_system(seed)
            self.assertEqual(system.grants(), sorted(system.grants()))
        grants = full_system().grants()
        self.assertTrue(all(one < other for one, other in zip(grants, grants[1:])))

    def test_defaults_are_ascending(self):
        defaults = [Default("ann", "table", "write", "dba"), Default("ann", "function", "call", "bob"),
                    Default("dba", "table", "read", "ann", option=True), Default("dba", "table", "read", "public")]
        for order in itertools.permutations(defaults):
            self.assertEqual(System(office().things(), [], list(order)).defaults(), defaults)

    def test_len(self):
        self.assertEqual([len(office()), len(office(TEXT)), len(System([]))], [0, 5, 0])
        self.assertEqual(len(System(office().things(), [], [Default("ann", "table", "read", "dba")])), 0)

    def test_option_of(self):
        system = office(TEXT)
        self.assertIs(system.option_of("dba", "ann", "read", "pay"), True)
        self.assertIs(system.option_of("ann", "bob", "read", "pay"), False)
        self.assertIs(system.option_of(thing="pay", right="write", taker="public", giver="dba"), False)
        for key in [("ann", "dba", "read", "pay"), ("dba", "bob", "read", "pay"), ("dba", "ann", "write", "pay"),
                    ("dba", "ann", "read", "key"), ("zed", "zed", "no", "zed"), ("dba", "eve", "write", "pay")]:
            self.assertIsNone(system.option_of(*key))

    def test_option_of_any_values(self):
        for value in any_values():
            for at in range(4):
                key = ["dba", "ann", "read", "pay"]
                key[at] = value
                expected = True if value == "ann" and at == 1 else None
                self.assertIs(office(TEXT).option_of(*key), expected)
            self.assertIsNone(office(TEXT).option_of(value, value, value, value))

    def test_in(self):
        system = office(TEXT)
        inside = given("dba ann read pay option, dba ann read pay, ann bob read pay, dba public write pay")
        outside = given("ann bob read pay option, ann dba read pay, dba bob read pay, dba ann write pay, "
                        "dba ann read key")
        self.assertEqual([grant in system for grant in inside + outside], [True] * 4 + [False] * 5)
        for value in any_values() + [grant.key() for grant in inside] + [inside]:
            if not isinstance(value, Grant):
                self.assertIs(value in system, False)

    def test_in_for_all_grants(self):
        for seed in range(30):
            system = random_system(seed)
            for plain in possible_grants(system.things()):
                option = system.option_of(*plain.key())
                self.assertIs(plain in system, option is not None)
                if plain.taker != "public":
                    self.assertIs(plain.with_option(True) in system, option is True)


class EqualityTest(unittest.TestCase):
    def test_equal_systems(self):
        self.assertEqual(office(TEXT), office(", ".join(reversed(TEXT.split(", ")))))
        self.assertIs(office(TEXT) != office(TEXT), False)
        self.assertEqual(System([]), System(()))

    def test_systems_that_differ(self):
        default = Default("ann", "table", "read", "bob")
        things = office().things()
        systems = [office(), office("dba ann read pay"), office("dba ann read pay option"), office("dba ann write pay"),
                   System(things, [], [default]), System([]), System(things[:-1]), System(list(reversed(things))),
                   System(things, [], [Default("ann", "table", "read", "bob", option=True)]),
                   System(things[:-1] + [Function("run", "ann")]), System(things[:-1] + [Table("run", "dba")]),
                   System(things[:-1] + [Function("run", "dba", mode="caller")]),
                   System(things[1:4] + things[:1] + things[4:], given("dba ann read pay"))]
        for (at, one), (to, other) in itertools.product(enumerate(systems), enumerate(systems)):
            self.assertIs(one == other, at == to, f"{at} and {to}")
            self.assertIs(one != other, at != to, f"{at} and {to}")

    def test_other_values(self):
        for value in any_values():
            if not isinstance(value, System):
                self.assertIs(office() == value, False)
                self.assertIs(value == office(), False)
        self.assertIsInstance(repr(office()), str)


class OrderTest(unittest.TestCase):
    def check(self, one, other, expected):
        self.assertIs(one <= other, expected)
        self.assertIs(other >= one, expected)

    def test_grants(self):
        one, option = office("dba ann read pay"), office("dba ann read pay option")
        more, other = office("dba ann read pay, dba ann write pay"), office("dba ann write pay")
        for system in [office(), one, option, more, other]:
            self.check(system, system, True)
            self.check(office(), system, True)
            self.check(system, office(), len(system) == 0)
        for smaller, greater, expected in [(one, option, True), (option, one, False), (one, more, True),
                                           (more, one, False), (option, more, False), (more, option, False),
                                           (other, more, True), (other, one, False)]:
            self.check(smaller, greater, expected)

    def test_defaults(self):
        def presets(*defaults):
            return System(office().things(), [], defaults)
        plain, option = Default("ann", "table", "read", "bob"), Default("ann", "table", "read", "bob", option=True)
        other = Default("ann", "table", "write", "bob")
        for one, two, expected in [((), (plain,), True), ((plain,), (), False), ((plain,), (option,), True),
                                   ((option,), (plain,), False), ((other,), (plain,), False),
                                   ((plain,), (plain, other), True), ((option,), (plain, other), False)]:
            self.check(presets(*one), presets(*two), expected)

    def test_things(self):
        things = office().things()
        for others in [things[:-1], list(reversed(things)), [], things + [Table("new", "dba")]]:
            self.check(System(things), System(others), False)
            self.check(System(others), System(things), False)

    def test_grants_and_defaults_both_count(self):
        default = Default("ann", "table", "read", "bob")
        one = System(office().things(), given("dba ann read pay"), [])
        other = System(office().things(), [], [default])
        self.check(one, other, False)
        self.check(other, one, False)

    def test_other_operands(self):
        system = office(TEXT)
        for value in any_values() + [system.grants(), system.things()]:
            if not isinstance(value, System):
                expect(self, InvalidSystem, "value", value, lambda: system <= value)
                expect(self, InvalidSystem, "value", value, lambda: system >= value)
                if not isinstance(value, (Grant, Default, Extent)):
                    expect(self, InvalidSystem, "value", value, lambda: value <= system)
                    expect(self, InvalidSystem, "value", value, lambda: value >= system)

    def test_many(self):
        for seed in range(60):
            one, other = random_system(seed % 6), random_system(seed)
            expected = one.things() == other.things() and all(grant in other for grant in one.grants())
            self.check(one, other, expected)


class NewListsTest(unittest.TestCase):
    def test_each_call_returns_a_new_list(self):
        system = System(office().things(), given(TEXT), [Default("ann", "table", "read", "bob")])
        for call in [system.things, system.names, system.grants, system.defaults, lambda: system.names("role")]:
            first, expected = call(), call()
            self.assertIs(type(first), list)
            self.assertIsNot(first, expected)
            first.clear()
            self.assertEqual(call(), expected)
        self.assertEqual([len(system), len(system.names())], [5, 7])


if __name__ == "__main__":
    unittest.main()
