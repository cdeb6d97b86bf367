import itertools
import unittest

from rolereach.errors import InvalidDefault, InvalidFlag, InvalidGrant, InvalidKind, InvalidName, InvalidRight
from rolereach.errors import InvalidTaker
from rolereach.grants import Default, Grant
from tests.values import NAMES, any_values, expect, expect_first, without

RIGHTS = ["inherit", "act", "read", "write", "call"]
FLAGS = [False, True]

# Names of which one begins another one, and "public" among them in its place as a string.
FEW = ["a", "ab", "abc", "b", "pub", "publics", "z"]


def pairs(givers, takers):
    return [(giver, taker) for giver in givers for taker in takers if giver != taker]


def grants_in_order():
    found = []
    for thing in ["a", "ab", "b"]:
        for right in RIGHTS:
            for giver, taker in pairs(["a", "ab", "pub"], ["a", "ab", "abc", "pub", "public", "publics"]):
                for option in FLAGS[:1 if taker == "public" else 2]:
                    found.append(Grant(giver, taker, right, thing, option=option))
    return found


def defaults_in_order():
    found = []
    for maker in ["a", "ab", "b"]:
        for kind, right in [("table", "read"), ("table", "write"), ("function", "call")]:
            for taker in ["a", "ab", "abc", "pub", "public", "publics"]:
                for option in FLAGS[:1 if taker == "public" else 2]:
                    if taker != maker:
                        found.append(Default(maker, kind, right, taker, option=option))
    return found


class GrantTest(unittest.TestCase):
    def test_attributes(self):
        for giver, taker in pairs(NAMES, NAMES + ["public"]):
            for right in RIGHTS:
                for option in FLAGS[:1 if taker == "public" else 2]:
                    grant = Grant(giver, taker, right, "pay", option=option)
                    self.assertEqual([grant.giver, grant.taker, grant.right, grant.thing], [giver, taker, right, "pay"])
                    self.assertIs(grant.option, option)
                    self.assertEqual(grant.key(), (giver, taker, right, "pay"))
                    self.assertIs(type(grant.key()), tuple)
        self.assertIs(Grant("ann", "bob", "read", "pay").option, False)
        self.assertIsInstance(repr(Grant("ann", "bob", "read", "pay")), str)

    def test_arguments_by_name(self):
        self.assertEqual(Grant(thing="pay", right="read", taker="bob", giver="ann", option=True),
                         Grant("ann", "bob", "read", "pay", option=True))
        with self.assertRaises(TypeError):
            Grant("ann", "bob", "read", "pay", True)
        with self.assertRaises(TypeError):
            Grant("ann", "bob", "read")
        grant = Grant("ann", "bob", "read", "pay")
        self.assertIs(grant.covers(other=grant), True)
        self.assertIs(grant.with_option(option=True).option, True)

    def test_wrong_givers(self):
        for value in without(any_values(), NAMES):
            expect(self, InvalidName, "value", value, lambda: Grant(value, "bob", "read", "pay"))

    def test_wrong_takers(self):
        for value in without(any_values(), NAMES + ["public"]):
            expect(self, InvalidTaker, "value", value, lambda: Grant("giver", value, "read", "pay"))
        for name in NAMES:
            taker = "".join(list(name))
            expect(self, InvalidTaker, "value", taker, lambda: Grant(name, taker, "read", "pay"))

    def test_wrong_rights_and_things(self):
        for value in without(any_values(), RIGHTS):
            expect(self, InvalidRight, "value", value, lambda: Grant("giver", "taker", value, "pay"))
        for value in without(any_values(), NAMES):
            expect(self, InvalidName, "value", value, lambda: Grant("giver", "taker", "read", value))

    def test_wrong_options(self):
        for value in without(any_values(), FLAGS):
            for taker in ["taker", "public"]:
                expect(self, InvalidFlag, "value", value, lambda: Grant("giver", taker, "read", "pay", option=value))
        expect(self, InvalidFlag, "value", True, lambda: Grant("giver", "public", "read", "pay", option=True))
        self.assertIs(Grant("giver", "public", "read", "pay", option=False).option, False)

    def test_the_first_wrong_argument_is_due(self):
        def make(giver, taker, right, thing, option):
            return Grant(giver, taker, right, thing, option=option)
        bad = [([], InvalidName, "value"), ({}, InvalidTaker, "value"), ("Read", InvalidRight, "value"),
               ("", InvalidName, "value"), (1, InvalidFlag, "value")]
        expect_first(self, make, ["ann", "bob", "read", "pay", True], bad)
        bad = [("public", InvalidName, "value"), ("ann", InvalidTaker, "value"), (None, InvalidRight, "value"),
               ("caller", InvalidName, "value"), (None, InvalidFlag, "value")]
        expect_first(self, make, ["ann", "public", "call", "pay", False], bad)
        expect(self, InvalidTaker, "value", "ann", lambda: Grant("ann", "ann", "no", "no no", option=3))

    def test_a_right_on_a_thing_of_any_name(self):
        # A grant alone does not know the kinds of things, and may be on a role of its own name.
        self.assertEqual(Grant("ann", "bob", "act", "ann").key(), ("ann", "bob", "act", "ann"))
        self.assertEqual(Grant("ann", "bob", "call", "bob").key(), ("ann", "bob", "call", "bob"))


class GrantMethodsTest(unittest.TestCase):
    def test_covers(self):
        grants = grants_in_order()[:60]
        for one, other in itertools.product(grants, grants):
            expected = one.key() == other.key() and not (other.option and not one.option)
            self.assertIs(one.covers(other), expected)

    def test_covers_differs_by_each_part(self):
        grant = Grant("ann", "bob", "read", "pay", option=True)
        for other in [Grant("eve", "bob", "read", "pay"), Grant("ann", "eve", "read", "pay"),
                      Grant("ann", "bob", "write", "pay"), Grant("ann", "bob", "read", "key")]:
            self.assertIs(grant.covers(other), False)
            self.assertIs(other.covers(grant), False)

    def test_covers_no_other_values(self):
        grant = Grant("ann", "bob", "read", "pay")
        for value in any_values() + [("ann", "bob", "read", "pay")]:
            if not isinstance(value, Grant):
                expect(self, InvalidGrant, "value", value, lambda: grant.covers(value))

    def test_with_option(self):
        for first in FLAGS:
            grant = Grant("ann", "bob", "read", "pay", option=first)
            for option in FLAGS:
                self.assertEqual(grant.with_option(option), Grant("ann", "bob", "read", "pay", option=option))
                self.assertIs(grant.with_option(option).option, option)
            self.assertIs(grant.option, first)
            for value in without(any_values(), FLAGS):
                expect(self, InvalidFlag, "value", value, lambda: grant.with_option(value))

    def test_public_never_has_the_option(self):
        grant = Grant("ann", "public", "read", "pay")
        self.assertEqual(grant.with_option(False), grant)
        expect(self, InvalidFlag, "value", True, lambda: grant.with_option(True))


class DefaultTest(unittest.TestCase):
    def test_attributes(self):
        for maker, taker in pairs(NAMES, NAMES + ["public"]):
            for kind, right in [("table", "read"), ("table", "write"), ("function", "call")]:
                for option in FLAGS[:1 if taker == "public" else 2]:
                    default = Default(maker, kind, right, taker, option=option)
                    self.assertEqual([default.maker, default.kind, default.right, default.taker],
                                     [maker, kind, right, taker])
                    self.assertIs(default.option, option)
                    grant = default.grant_on("pay")
                    self.assertEqual(grant, Grant(maker, taker, right, "pay", option=option))
        self.assertIs(Default("ann", "table", "read", "bob").option, False)
        self.assertIsInstance(repr(Default("ann", "table", "read", "bob")), str)

    def test_arguments_by_name(self):
        default = Default(taker="bob", right="read", kind="table", maker="ann", option=True)
        self.assertEqual(default, Default("ann", "table", "read", "bob", option=True))
        self.assertEqual(default.grant_on(thing="key"), Grant("ann", "bob", "read", "key", option=True))
        with self.assertRaises(TypeError):
            Default("ann", "table", "read", "bob", True)

    def test_wrong_makers_kinds_and_rights(self):
        for value in without(any_values(), NAMES):
            expect(self, InvalidName, "value", value, lambda: Default(value, "table", "read", "bob"))
        for value in any_values() + ["role", "Table", "tables"]:
            expect(self, InvalidKind, "value", value, lambda: Default("ann", value, "read", "bob"))
            if value not in ("read", "write"):
                expect(self, InvalidRight, "value", value, lambda: Default("ann", "table", value, "bob"))
        for kind, rights in [("table", ["inherit", "act", "call"]), ("function", ["inherit", "act", "read", "write"])]:
            for right in rights:
                expect(self, InvalidRight, "value", right, lambda: Default("ann", kind, right, "bob"))

    def test_wrong_takers_and_options(self):
        for value in without(any_values(), NAMES + ["public"]) + ["maker"]:
            expect(self, InvalidTaker, "value", value, lambda: Default("maker", "table", "read", value))
        for value in without(any_values(), FLAGS):
            for taker in ["taker", "public"]:
                expect(self, InvalidFlag, "value", value,
                       lambda: Default("maker", "table", "read", taker, option=value))
        expect(self, InvalidFlag, "value", True, lambda: Default("maker", "table", "read", "public", option=True))

    def test_the_first_wrong_argument_is_due(self):
        def make(maker, kind, right, taker, option):
            return Default(maker, kind, right, taker, option=option)
        bad = [([], InvalidName, "value"), ("role", InvalidKind, "value"), ("call", InvalidRight, "value"),
               ("caller", InvalidTaker, "value"), (0, InvalidFlag, "value")]
        expect_first(self, make, ["ann", "table", "read", "bob", True], bad)
        expect(self, InvalidRight, "value", "inherit", lambda: make("ann", "function", "inherit", "ann", 3))
        expect(self, InvalidTaker, "value", "ann", lambda: make("ann", "function", "call", "ann", 3))

    def test_grant_on_wrong_names(self):
        default = Default("ann", "table", "read", "bob")
        for value in without(any_values(), NAMES):
            expect(self, InvalidName, "value", value, lambda: default.grant_on(value))


class OrderTest(unittest.TestCase):
    def test_the_order_of_grants(self):
        self.in_order(grants_in_order()[:200] + grants_in_order()[-30:])

    def test_the_order_of_defaults(self):
        self.in_order(defaults_in_order())

    def in_order(self, items):
        for (at, one), (to, other) in itertools.product(enumerate(items), enumerate(items)):
            self.assertIs(one < other, at < to)
            self.assertIs(one <= other, at <= to)
            self.assertIs(one > other, at > to)
            self.assertIs(one >= other, at >= to)
            self.assertIs(one == other, at == to)
            self.assertIs(one != other, at != to)

    def test_the_parts_that_count_first(self):
        rows = [Grant("z", "y", "call", "a"), Grant("a", "b", "inherit", "b"),
                Grant("z", "y", "inherit", "b", option=True), Grant("a", "b", "act", "b"),
                Grant("a", "y", "read", "b"), Grant("b", "a", "read", "b")]
        self.in_order(rows)
        rows = [Default("a", "function", "call", "z"), Default("b", "table", "write", "a", option=True),
                Default("b", "function", "call", "a")]
        self.in_order(rows)

    def test_made_anew_they_are_equal(self):
        for one, other in zip(grants_in_order(), grants_in_order()):
            self.assertEqual([one == other, one != other, one <= other, one < other], [True, False, True, False])
        for one, other in zip(defaults_in_order(), defaults_in_order()):
            self.assertEqual([one == other, one != other, one >= other, one > other], [True, False, True, False])


class OtherOperandsTest(unittest.TestCase):
    def refused(self, item, error, values):
        for value in values:
            self.assertIs(item == value, False)
            self.assertIs(value == item, False)
            self.assertIs(item != value, True)
            for action in [lambda: item < value, lambda: item <= value, lambda: item > value, lambda: item >= value]:
                expect(self, error, "value", value, action)

    def on_the_left(self, item, error, values):
        for value in values:
            for action in [lambda: value < item, lambda: value <= item, lambda: value > item, lambda: value >= item]:
                expect(self, error, "value", value, action)

    def test_grants(self):
        grant = Grant("ann", "bob", "read", "pay")
        others = [value for value in any_values() if not isinstance(value, Grant)]
        self.refused(grant, InvalidGrant, others + [grant.key()])
        plain = [value for value in others if type(value).__name__ not in ("Default", "System", "Extent")]
        self.on_the_left(grant, InvalidGrant, plain + [grant.key()])

    def test_defaults(self):
        default = Default("ann", "table", "read", "bob")
        others = [value for value in any_values() if not isinstance(value, Default)]
        self.refused(default, InvalidDefault, others)
        plain = [value for value in others if type(value).__name__ not in ("Grant", "System", "Extent")]
        self.on_the_left(default, InvalidDefault, plain)

    def test_each_class_answers_for_its_own_left_side(self):
        grant, default = Grant("ann", "bob", "read", "pay"), Default("ann", "table", "read", "bob")
        expect(self, InvalidGrant, "value", default, lambda: grant < default)
        expect(self, InvalidDefault, "value", grant, lambda: default < grant)


if __name__ == "__main__":
    unittest.main()
