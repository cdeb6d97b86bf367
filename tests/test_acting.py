"""Who can act as whom [65]."""

import itertools
import time
import unittest

from rolereach.access import act_path, acting
from rolereach.errors import InvalidSystem, InvalidTeam, UnknownRole
from rolereach.grants import Grant
from rolereach.systems import System
from rolereach.things import Role, Table
from tests.values import any_values, expect, expect_first
from tests.worlds import Dice, full_system, given, office, plain_has, random_system

NO_TEAMS = [["ann", "ann"], ["zed"], ["ann", "zed"], ["pay"], ["public"], ("ann", "bob", "ann"), [["ann"]], [None],
            ["ann", 1], {"ann": "bob"}, "ann", list("abcdefghi")]


def act_pairs(system):
    names = system.names("role")
    return {(one, other) for one in names for other in names if plain_has(system, one, "act", other)}


def plain_distances(pairs, roles):
    """For each role that can be acted as, the least number of roles on a path, found by going further and further."""
    found = {role: 1 for role in roles}
    for count in range(1, 9):
        for one, other in pairs:
            if found.get(one) == count and other not in found:
                found[other] = count + 1
    return found


class ActingTest(unittest.TestCase):
    def test_chains(self):
        system = office("dba ann act bob, dba bob act eve")
        self.assertEqual([acting(system, [role]) for role in system.names("role")],
                         [["dba", "ann", "bob", "eve"], ["ann", "bob", "eve"], ["bob", "eve"], ["eve"]])
        self.assertEqual(acting(system, ("eve", "ann")), ["ann", "bob", "eve"])
        self.assertEqual(acting(roles=["eve", "bob"], system=system), ["bob", "eve"])

    def test_no_team(self):
        for nobody in [[], ()]:
            self.assertEqual(acting(office("dba public act bob"), nobody), [])
            self.assertIsNone(act_path(office("dba public act bob"), nobody, "bob"))

    def test_circles(self):
        system = office("dba ann act bob, dba bob act eve, dba eve act ann")
        for role in ["ann", "bob", "eve"]:
            self.assertEqual(acting(system, [role]), ["ann", "bob", "eve"])
            self.assertIsNone(act_path(system, [role], "dba"))
        self.assertEqual(acting(office("dba ann act ann"), ["ann"]), ["ann"])

    def test_public(self):
        self.assertEqual(acting(office("dba public act bob"), ["eve"]), ["bob", "eve"])

    def test_what_is_inherited_counts(self):
        self.assertEqual(acting(office("dba ann inherit bob, dba bob act eve"), ["ann"]), ["ann", "eve"])
        # But to act as a role is not to inherit it, and to inherit it is not to act as it.
        self.assertEqual(acting(office("dba ann act bob, dba bob inherit eve, dba eve act dba"), ["ann"]),
                         ["dba", "ann", "bob", "eve"])
        self.assertEqual(acting(office("dba ann inherit bob"), ["ann"]), ["ann"])

    def test_the_order_is_that_of_the_system(self):
        system = System([Role(name, "z") for name in ["z", "c", "a", "b"]], given("z a act b, z b act c"))
        self.assertEqual([acting(system, ["a"]), acting(system, ["b", "a"])], [["c", "a", "b"]] * 2)

    def test_the_list_is_new(self):
        system, roles = office("dba ann act bob"), ["bob", "ann"]
        acting(system, roles).clear()
        act_path(system, roles, "bob").clear()
        self.assertEqual([roles, acting(system, roles), act_path(system, roles, "bob")],
                         [["bob", "ann"], ["ann", "bob"], ["bob"]])


class ActPathTest(unittest.TestCase):
    def test_paths(self):
        system = office("dba ann act bob, dba bob act eve")
        self.assertEqual(act_path(system, ["ann"], "eve"), ["ann", "bob", "eve"])
        self.assertEqual(act_path(system, ["ann", "bob"], "eve"), ["bob", "eve"])
        self.assertEqual(act_path(system, ["ann"], "ann"), ["ann"])
        self.assertEqual(act_path(role="eve", roles=("ann", "dba"), system=system), ["dba", "eve"])
        self.assertIsNone(act_path(system, ["eve"], "ann"))
        self.assertIsNone(act_path(system, ["eve", "bob", "ann"], "dba"))

    def test_all_systems(self):
        for seed in range(150):
            system = random_system(seed, 18)
            names, pairs = system.names("role"), act_pairs(system)
            for roles in [[], names[:1], names[-1:], names[1:][::-1], names]:
                distances = plain_distances(pairs, roles)
                self.assertEqual(acting(system, roles), [one for one in names if one in distances])
                for role in names:
                    path = act_path(system, roles, role)
                    self.assertEqual(None if path is None else len(path), distances.get(role))
                    if path is not None:
                        self.assertEqual([type(path), path[-1], path[0] in roles], [list, role, True])
                        self.assertTrue(all(pair in pairs for pair in zip(path, path[1:])))

    def test_a_long_path(self):
        names = list("abcdefgh")
        things = [Role(name, "h") for name in names]
        grants = [f"h {one} act {other}" for one, other in zip(names, names[1:]) if one != "h"]
        system = System(things, given(", ".join(grants)))
        self.assertEqual(act_path(system, ["a"], "h"), names)
        self.assertEqual(acting(system, ["a"]), names)

    def test_the_most_grants(self):
        system = full_system()
        self.assertEqual(acting(system, ["h"]), list("abcdefgh"))
        self.assertEqual([act_path(system, ["h"], role) for role in "abh"], [["h", "a"], ["h", "b"], ["h"]])


EIGHT = list("abcdefgh")


def owner_after(role):
    """In the ring of eight roles each one is owned by the next one."""
    return EIGHT[(EIGHT.index(role) + 1) % 8]


def ring(grants):
    return System([Role(role, owner_after(role)) for role in EIGHT] + [Table("x", "a")], grants)


def ring_of_acts():
    return ring([Grant(owner_after(role), owner_after(owner_after(role)), "act", role) for role in EIGHT])


def ring_with_many_grants(seed):
    dice, found = Dice(seed), {}
    while len(found) < 40:
        role = dice.pick(EIGHT)
        # Few of the grants are to public, which would make the rest needless.
        taker = "public" if dice.below(30) == 0 else dice.pick(EIGHT)
        if taker != owner_after(role):
            grant = Grant(owner_after(role), taker, dice.pick(["act", "inherit"]), role)
            found[grant.key()] = grant
    return ring(list(found.values()))


class EightRolesTest(unittest.TestCase):
    def compare_all_teams(self, system):
        pairs = act_pairs(system)
        for count in range(4):
            for team in itertools.combinations(EIGHT, count):
                distances = plain_distances(pairs, team)
                self.assertEqual(acting(system, list(team)), [role for role in EIGHT if role in distances])
                for role in EIGHT:
                    path = act_path(system, list(team), role)
                    self.assertEqual(None if path is None else len(path), distances.get(role))
                    if path is not None:
                        self.assertEqual([path[-1], path[0] in team], [role, True])
                        self.assertTrue(all(pair in pairs for pair in zip(path, path[1:])))

    def test_a_ring(self):
        self.compare_all_teams(ring_of_acts())

    def test_rings_with_many_grants(self):
        for seed in range(6):
            self.compare_all_teams(ring_with_many_grants(seed))

    def test_few_grants_on_a_ring(self):
        for seed in range(6):
            grants = ring_with_many_grants(seed).grants()
            self.compare_all_teams(ring(grants[seed::4]))

    def test_a_hundred_calls_are_answered_at_once(self):
        for build in [ring_of_acts, lambda: ring_with_many_grants(1), full_system]:
            system, times = build(), []
            for _ in range(3):
                start = time.perf_counter()
                for _ in range(100):
                    acting(system, ["a"])
                    act_path(system, ["a"], "h")
                times.append(time.perf_counter() - start)
            self.assertLess(min(times), 0.05)

    def test_the_first_calls_take_no_longer(self):
        systems = [ring_with_many_grants(seed) for seed in range(50)]
        start = time.perf_counter()
        for system in systems:
            acting(system, ["a"])
        self.assertLess(time.perf_counter() - start, 0.05)


class ArgumentsTest(unittest.TestCase):
    def test_no_system(self):
        for value in any_values():
            if not isinstance(value, System):
                expect(self, InvalidSystem, "value", value, lambda: acting(value, 1))
                expect(self, InvalidSystem, "value", value, lambda: act_path(value, 1, 1))

    def test_no_team(self):
        teams = ([], (), ["ann"], ("ann", "bob"))
        for value in [value for value in any_values() if value not in teams] + NO_TEAMS:
            expect(self, InvalidTeam, "value", value, lambda: acting(office(), value))
            expect(self, InvalidTeam, "value", value, lambda: act_path(office(), value, 1))
        for value in any_values():
            if value not in ("ann", "bob"):
                team = ["eve", value]
                expect(self, InvalidTeam, "value", team, lambda: acting(office(), team))
                expect(self, InvalidTeam, "value", team, lambda: act_path(office(), team, "eve"))

    def test_no_role(self):
        for value in any_values() + ["pay", "zed"]:
            if value not in ("ann", "bob"):
                for team in [[], ["ann"]]:
                    expect(self, UnknownRole, "name", value, lambda: act_path(office(), team, value))

    def test_the_first_wrong_argument_is_due(self):
        bad = [("system", InvalidSystem, "value"), (None, InvalidTeam, "value"), ([], UnknownRole, "name")]
        expect_first(self, act_path, [office(), ["ann"], "ann"], bad)
        expect_first(self, acting, [office(), ["ann"]], bad[:2])


if __name__ == "__main__":
    unittest.main()
