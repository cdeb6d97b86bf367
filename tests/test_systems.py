"""What a system may consist of [41]."""

import unittest

from rolereach.errors import DuplicateDefault, DuplicateGrant, DuplicateName, InvalidDefault, InvalidDefaults
from rolereach.errors import InvalidGrant, InvalidGrants, InvalidStep, InvalidThing, InvalidThings, TooLong, TooMany
from rolereach.errors import UnknownRole, Unrooted
from rolereach.grants import Default, Grant
from rolereach.systems import System
from rolereach.things import Call, Function, Give, Role, Table
from tests.values import any_values, expect
from tests.worlds import Dice, full_system, full_things, given, office, owner_in, plain_standing, possible_grants
from tests.worlds import random_grants, random_things

ROLES = [Role("dba", "dba"), Role("ann", "dba"), Role("bob", "dba")]
THINGS = ROLES + [Table("pay", "dba"), Table("key", "ann", audience=["ann", "bob"]), Function("run", "dba")]


def function(name, *body):
    return Function(name, "dba", body=list(body))


class ThingsTest(unittest.TestCase):
    def refused(self, error, field, value, things, grants=(), defaults=()):
        expect(self, error, field, value, lambda: System(things, grants, defaults))

    def test_no_list_of_things(self):
        for value in any_values():
            if not isinstance(value, (list, tuple)):
                self.refused(InvalidThings, "value", value, value)

    def test_twenty_things_and_twenty_one(self):
        things = full_things()
        self.assertEqual(len(things), 20)
        self.assertEqual(System(things).things(), things)
        self.assertEqual(System(tuple(things)).things(), things)
        for more in [Role("x", "a"), Table("x", "a"), things[0], None]:
            many = things + [more]
            self.refused(InvalidThings, "value", many, many)
        many = tuple([None] * 21)
        self.refused(InvalidThings, "value", many, many)

    def test_items_that_are_no_things(self):
        for value in any_values():
            if not isinstance(value, (Role, Table, Function)):
                self.refused(InvalidThing, "value", value, [value])
                self.refused(InvalidThing, "value", value, (ROLES[0], value, ROLES[0], None))

    def test_duplicate_names(self):
        for one, other in [(Role("ann", "ann"), Role("ann", "ann")), (Role("ann", "ann"), Table("ann", "ann")),
                           (Table("pay", "ann"), Function("pay", "zed"))]:
            with self.assertRaises(DuplicateName) as caught:
                System([Role("bob", "bob"), one, other, None])
            self.assertEqual(caught.exception.name, one.name)
        first = Role("ann", "ann")
        self.refused(DuplicateName, "name", first.name, [first, first])

    def test_item_by_item(self):
        bad = {}
        self.refused(InvalidThing, "value", bad, [ROLES[0], bad, ROLES[0]])
        with self.assertRaises(DuplicateName):
            System([ROLES[0], ROLES[0], {}])
        # All items are looked at before they are counted, and before their owners.
        self.refused(InvalidThing, "value", bad, [Role(name, "zed") for name in "abcdefghi"] + [bad])

    def test_eight_roles_and_nine(self):
        def roles(count):
            return [Role(name, "a") for name in "abcdefghijkl"[:count]]
        self.assertEqual(System(roles(8)).names(), list("abcdefgh"))
        for count in [9, 10, 12]:
            self.refused(TooMany, "count", count, roles(count))

    def test_six_tables_or_functions_and_seven(self):
        for make in [Table, Function]:
            def things(count):
                return [Role("dba", "dba")] + [make(name, "dba") for name in "abcdefgh"[:count]]
            self.assertEqual(len(System(things(6)).things()), 7)
            self.refused(TooMany, "count", 7, things(7))
            self.refused(TooMany, "count", 8, things(8))

    def test_roles_are_counted_first_and_owners_last(self):
        roles = [Role(name, "zed") for name in "abcdefghi"]
        tables = [Table("t" + name, "zed") for name in "abcdefgh"]
        functions = [Function("f" + name, "zed") for name in "abcdefg"]
        self.refused(TooMany, "count", 9, tables[:7] + roles)
        self.refused(TooMany, "count", 8, functions + tables)
        self.refused(TooMany, "count", 7, functions + tables[:6])
        self.refused(UnknownRole, "name", "zed", functions[:6] + tables[:6])

    def test_no_things(self):
        for things in [[], ()]:
            system = System(things)
            self.assertEqual([system.things(), system.names(), system.grants(), system.defaults(), len(system)],
                             [[], [], [], [], 0])


class OwnersTest(unittest.TestCase):
    def refused(self, error, field, value, things):
        with self.assertRaises(error) as caught:
            System(things)
        self.assertEqual(getattr(caught.exception, field), value)

    def test_owners(self):
        self.assertEqual(len(System([Table("pay", "ann"), Role("ann", "bob"), Role("bob", "ann")]).things()), 3)
        for things in [[Role("ann", "bob")], [Role("ann", "ann"), Table("bob", "ann"), Role("eve", "bob")],
                       [Table("bob", "bob")], [Role("ann", "ann"), Function("f", "bob")]]:
            self.refused(UnknownRole, "name", "bob", things)

    def test_audiences(self):
        for make in [Role, Table, Function]:
            things = ROLES + [make("new", "dba", audience=["dba", "zed", "bob", "ned"])]
            self.refused(UnknownRole, "name", "ned", things)
            System(ROLES + [make("new", "dba", audience=["dba", "bob"])])
            System(ROLES + [make("new", "dba", audience=[])])
            # A table is not a role, the thing itself only if it is one.
            things = ROLES + [Table("pay", "dba"), make("new", "dba", audience=["pay"])]
            self.refused(UnknownRole, "name", "pay", things)
        self.refused(UnknownRole, "name", "new", ROLES + [Table("new", "dba", audience=["new"])])
        System(ROLES + [Role("new", "dba", audience=["new"])])
        self.refused(UnknownRole, "name", "abc", ROLES + [Table("new", "dba", audience=["b", "abcd", "abc"])])

    def test_the_very_names(self):
        owner, name = "".join(["ze", "d"]), "".join(["ne", "d"])
        expect(self, UnknownRole, "name", owner, lambda: System([Table("pay", owner)]))
        expect(self, UnknownRole, "name", name, lambda: System(ROLES + [Table("pay", "dba", audience=[name])]))

    def test_thing_by_thing(self):
        bad_body = Function("f", "dba", audience=["ann"], body=[Call("f")])
        self.refused(UnknownRole, "name", "zed", [Role("dba", "dba"), Table("a", "zed", audience=["ned"]), bad_body])
        self.refused(UnknownRole, "name", "ned", [Role("dba", "dba"), Table("a", "dba", audience=["ned"]), bad_body,
                                                  Table("b", "zed")])
        self.refused(UnknownRole, "name", "ann", [Role("dba", "dba"), bad_body])
        self.refused(InvalidStep, "index", 0, ROLES + [bad_body, Table("b", "zed")])


class BodiesTest(unittest.TestCase):
    def step(self, name, index, things):
        with self.assertRaises(InvalidStep) as caught:
            System(things)
        self.assertEqual([caught.exception.name, caught.exception.index], [name, index])

    def test_gives(self):
        good = [Give("act", "ann", "bob"), Give("inherit", "ann", "public"), Give("read", "pay", "caller", option=True),
                Give("write", "key", "dba"), Give("call", "run", "ann"), Give("call", "f", "caller"),
                Give("act", "ann", "ann"), Give("read", "late", "ann")]
        for deed in good:
            System(THINGS + [function("f", deed), Table("late", "dba")])
        bad = [Give("read", "ann", "bob"), Give("call", "pay", "bob"), Give("inherit", "run", "bob"),
               Give("act", "pay", "bob"), Give("read", "zed", "bob"), Give("read", "pay", "zed"),
               Give("read", "pay", "key"), Give("read", "pay", "f"), Give("read", "f", "ann")]
        for deed in bad:
            self.step("f", 0, THINGS + [function("f", deed)])
            for at in range(4):
                body = [good[0]] * at + [deed] + [Call("f")] * (3 - at)
                self.step("f", at, THINGS + [function("f", *body)])

    def test_the_audience_of_a_thing_does_not_matter_to_a_body(self):
        System(THINGS + [function("f", Give("read", "key", "dba"), Give("read", "key", "public"))])

    def test_calls(self):
        System(THINGS + [function("f", Call("run")), function("g", Call("f"), Call("f"), Call("run"))])
        for deed in [Call("f"), Call("g"), Call("zed"), Call("pay"), Call("ann")]:
            self.step("f", 1, THINGS + [function("f", Call("run"), deed), function("g")])
        self.step("f", 0, THINGS[:3] + [function("f", Call("run")), THINGS[5]])

    def test_the_first_function_is_due(self):
        self.step("f", 0, THINGS + [function("f", Call("f")), function("g", Call("g"))])
        self.step("g", 2, THINGS + [function("f"), function("g", Call("f"), Call("run"), Call("g"), Call("zed"))])


def long_functions():
    give = Give("read", "pay", "caller")
    return [Table("pay", "dba"), function("four", give, give, give, give), function("one", give),
            function("many", *[Call("four")] * 4), function("some", give, *[Call("four")] * 3)]


class StepsTest(unittest.TestCase):
    def test_steps(self):
        system = System(ROLES + long_functions())
        self.assertEqual([system.steps(name) for name in ["four", "one", "many", "some"]], [4, 1, 20, 16])
        self.assertEqual(System(ROLES + [function("f")]).steps("f"), 0)

    def test_empty_functions_count_by_their_calls(self):
        functions = [function("f"), function("g", Call("f"), Call("f")), function("h", Call("g"), Call("f"))]
        system = System(ROLES + functions)
        self.assertEqual([system.steps(name) for name in "fgh"], [0, 2, 4])

    def test_forty_steps_and_forty_one(self):
        give = Give("read", "pay", "caller")
        forty = function("last", Call("many"), Call("some"), give, give)
        self.assertEqual(System(ROLES + long_functions() + [forty]).steps("last"), 40)
        for count, body in [(41, [Call("many"), Call("some"), Call("one"), give]), (42, [Call("many")] * 2),
                            (84, [Call("many")] * 4)]:
            things = ROLES + long_functions() + [function("last", *body)]
            expect(self, TooLong, "count", count, lambda: System(things))
            # The next thing comes after the length of this one.
            expect(self, TooLong, "count", count, lambda: System(things + [Table("new", "zed")]))
            expect(self, TooLong, "count", count, lambda: System(things, 1, 1))

    def test_a_deed_that_is_not_possible_comes_before_the_length(self):
        body = [Call("many"), Call("many"), Call("many"), Call("last")]
        with self.assertRaises(InvalidStep):
            System(ROLES + long_functions() + [function("last", *body)])


class GrantsTest(unittest.TestCase):
    def refused(self, error, value, grants, defaults=()):
        expect(self, error, "value", value, lambda: System(THINGS, grants, defaults))

    def test_no_list_of_grants(self):
        for value in any_values():
            if not isinstance(value, (list, tuple)):
                self.refused(InvalidGrants, value, value, 1)

    def test_the_most_items(self):
        for many in [[None] * 2501, (Grant("dba", "ann", "read", "pay"),) * 2501]:
            self.refused(InvalidGrants, many, many)
        nothing = []
        self.refused(InvalidGrant, nothing, [nothing] * 2500)

    def test_items_that_are_no_grants(self):
        good = Grant("dba", "ann", "read", "pay")
        for value in any_values() + [good.key()]:
            if not isinstance(value, Grant):
                self.refused(InvalidGrant, value, [value])
                self.refused(InvalidGrant, value, (good, value, good))

    def test_grants_that_do_not_fit(self):
        for text in ["zed ann read pay", "pay ann read pay", "dba zed read pay", "dba pay read pay", "dba ann read zed",
                     "dba ann act pay", "dba ann read ann", "dba ann call pay", "dba ann write run",
                     "dba ann inherit run", "ann dba read key", "ann public read key"]:
            grant = given(text)[0]
            self.refused(InvalidGrant, grant, [grant], 1)
            self.refused(InvalidGrant, grant, given("dba bob act ann") + [grant, None])

    def test_grants_that_fit(self):
        grants = given("dba ann read pay option, dba public write pay, ann bob read key, dba ann act dba, "
                       "dba ann inherit bob option, dba public call run, ann bob inherit bob")
        system = System(THINGS, grants)
        self.assertEqual(len(system), 7)
        self.assertEqual(sorted(str(grant.key()) for grant in system.grants()), sorted(str(g.key()) for g in grants))
        self.assertEqual(System(THINGS, tuple(reversed(grants))), system)

    def test_duplicates(self):
        for first in [False, True]:
            for second in [False, True]:
                one = Grant("dba", "ann", "read", "pay", option=first)
                other = Grant("dba", "ann", "read", "pay", option=second)
                self.refused(DuplicateGrant, other, [one, other, None])
        one = Grant("dba", "ann", "read", "pay")
        self.refused(DuplicateGrant, one, [one, one])
        bad = {}
        self.refused(InvalidGrant, bad, [one, bad, one])

    def test_items_come_before_roots(self):
        loose = Grant("ann", "bob", "read", "pay")
        bad = []
        self.refused(InvalidGrant, bad, [loose, bad])
        self.refused(DuplicateGrant, loose, [loose, loose])
        self.refused(Unrooted, loose, [loose], 1)


class RootsTest(unittest.TestCase):
    def refused(self, at, text):
        grants = given(text)
        expect(self, Unrooted, "value", grants[at], lambda: System(office().things(), grants))

    def test_a_giver_without_the_right(self):
        self.refused(0, "ann bob read pay")
        self.refused(0, "dba eve read key")

    def test_a_giver_without_the_option(self):
        self.refused(1, "dba ann read pay, ann bob read pay")
        self.refused(0, "ann bob read pay, dba ann read pay")
        self.refused(1, "dba public read pay, ann bob read pay")

    def test_the_option_of_another_right_or_thing(self):
        self.refused(1, "dba ann write pay option, ann bob read pay")
        self.refused(1, "bob ann read key option, ann bob read pay")
        self.refused(2, "dba ann act bob option, dba bob act ann option, ann eve inherit bob")

    def test_the_rights_of_another_role_do_not_count(self):
        self.refused(1, "dba ann inherit dba, ann bob read pay")
        self.refused(1, "dba ann act dba, ann bob read pay")

    def test_circles_do_not_stand(self):
        self.refused(0, "ann bob read pay option, bob ann read pay option")
        self.refused(1, "dba eve read pay, bob ann read pay option, ann bob read pay option, ann eve read pay")
        self.refused(0, "ann bob read pay option, bob eve read pay option, eve ann read pay option")
        office("dba ann read pay option, ann bob read pay option, bob ann read pay option")
        office("bob ann read pay option, ann bob read pay option, dba ann read pay option")

    def test_the_first_one_in_the_list(self):
        self.refused(2, "dba ann read pay option, ann bob read pay, eve bob write pay, bob eve read pay")
        self.refused(0, "eve bob write pay, bob eve read pay, dba ann read pay option")

    def test_an_owner_may_be_given_the_right_back(self):
        self.assertEqual(len(office("dba ann read pay option, ann dba read pay option, ann public read pay")), 3)

    def test_all_systems_of_a_kind(self):
        for seed in range(300):
            dice = Dice(seed)
            things = random_things(dice)
            grants = random_grants(dice, things, 10)
            good = plain_standing(things, grants)
            loose = [grant for grant in grants if grant not in good]
            if loose:
                expect(self, Unrooted, "value", loose[0], lambda: System(things, grants))
            self.assertEqual(len(System(things, good)), len(good))
            self.assertEqual(System(things, good).grants(), sorted(good))


class DefaultsTest(unittest.TestCase):
    def refused(self, error, value, defaults):
        expect(self, error, "value", value, lambda: System(THINGS, (), defaults))

    def test_no_list_of_defaults(self):
        for value in any_values():
            if not isinstance(value, (list, tuple)):
                self.refused(InvalidDefaults, value, value)

    def test_the_most_items(self):
        for many in [[None] * 201, (Default("dba", "table", "read", "ann"),) * 201, [1] * 2600]:
            self.refused(InvalidDefaults, many, many)
        nothing = []
        self.refused(InvalidDefault, nothing, [nothing] * 200)

    def test_items(self):
        good = Default("dba", "table", "read", "ann")
        for value in any_values() + [Grant("dba", "ann", "read", "pay")]:
            if not isinstance(value, Default):
                self.refused(InvalidDefault, value, [value])
                self.refused(InvalidDefault, value, (good, value, good))
        for bad in [Default("zed", "table", "read", "ann"), Default("pay", "table", "read", "ann"),
                    Default("dba", "table", "read", "zed"), Default("dba", "function", "call", "run")]:
            self.refused(InvalidDefault, bad, [good, bad, None])

    def test_duplicates(self):
        for first in [False, True]:
            for second in [False, True]:
                one = Default("dba", "table", "read", "ann", option=first)
                other = Default("dba", "table", "read", "ann", option=second)
                self.refused(DuplicateDefault, other, [one, other, None])

    def test_all_defaults(self):
        roles = "abcdefgh"
        defaults = [Default(maker, kind, right, taker, option=taker == "h")
                    for kind, right in [("table", "read"), ("table", "write"), ("function", "call")]
                    for maker in roles for taker in list(roles) + ["public"] if taker != maker]
        self.assertEqual(len(defaults), 192)
        system = System(full_things(), [], tuple(defaults))
        self.assertEqual(system.defaults(), sorted(defaults))
        self.assertEqual(System(full_things(), defaults=list(reversed(defaults))), system)


class ArgumentsTest(unittest.TestCase):
    def test_by_position_and_by_name(self):
        grants, defaults = given("dba ann read pay"), [Default("dba", "table", "read", "ann")]
        system = System(THINGS, grants, defaults)
        self.assertEqual(System(defaults=defaults, grants=grants, things=THINGS), system)
        self.assertEqual(System(THINGS), System(THINGS, [], []))
        with self.assertRaises(TypeError):
            System()

    def test_the_lists_are_copied_and_not_changed(self):
        things, grants, defaults = list(THINGS), given("dba bob read pay, dba ann read pay"), []
        defaults.append(Default("dba", "table", "read", "ann"))
        system = System(things, grants, defaults)
        self.assertEqual([things, grants], [THINGS, given("dba bob read pay, dba ann read pay")])
        for changed in [things, grants, defaults]:
            changed.clear()
        self.assertEqual([system.things(), len(system), len(system.defaults())], [THINGS, 2, 1])

    def test_the_first_wrong_argument_is_due(self):
        for things, grants, defaults, error in [
                ({}, {}, {}, InvalidThings), ([1], {}, {}, InvalidThing), (THINGS, {}, {}, InvalidGrants),
                (THINGS, [1], {}, InvalidGrant), (THINGS, [], {}, InvalidDefaults), (THINGS, [], [1], InvalidDefault)]:
            with self.assertRaises(error):
                System(things, grants, defaults)

    def test_the_most_grants(self):
        system = full_system()
        self.assertEqual(len(system), len(possible_grants(full_things())))
        self.assertEqual(len(system), 2176)
        self.assertEqual({owner_in(system.things(), name) for name in system.names()}, {"a"})


if __name__ == "__main__":
    unittest.main()
