"""What falls when grants are revoked, and what a grant rests on [54], [55]."""

import unittest

from rolereach.errors import InvalidFlag, InvalidGrants, InvalidSystem, UnknownGrant
from rolereach.grants import Default, Grant
from rolereach.standing import is_cut_off, cut_off, ranks, support, without
from rolereach.systems import System
from rolereach.things import Role, Table
from tests.values import any_values, expect
from tests.values import without as leave_out
from tests.worlds import Dice, full_system, given, office, plain_standing, random_system

CHAIN = "dba ann read pay option, ann bob read pay option, bob eve read pay, dba eve write pay"
RING = "dba ann read pay option, ann bob read pay option, bob ann read pay option, bob eve read pay"


class WithoutTest(unittest.TestCase):
    def check(self, before, revoked, after, fallen, only_option=False):
        system = office(before)
        found = without(system, given(revoked), only_option=only_option)
        self.assertEqual([type(found), len(found), type(found[1])], [tuple, 2, list])
        self.assertEqual(found[0], office(after))
        self.assertEqual(found[1], given(fallen))
        self.assertEqual(system, office(before))

    def test_nothing(self):
        for only_option in [False, True]:
            self.check(CHAIN, "", CHAIN, "", only_option)
            self.check("", "", "", "", only_option)
        self.assertEqual(without(office(CHAIN), ())[0], office(CHAIN))

    def test_what_hangs_on_a_grant_falls(self):
        self.check(CHAIN, "dba ann read pay", "dba eve write pay", "ann bob read pay option, bob eve read pay")
        self.check(CHAIN, "ann bob read pay option", "dba ann read pay option, dba eve write pay", "bob eve read pay")
        self.check(CHAIN, "bob eve read pay", "dba ann read pay option, ann bob read pay option, dba eve write pay", "")
        self.check(CHAIN, "bob eve read pay, dba ann read pay", "dba eve write pay", "ann bob read pay option")
        self.check(CHAIN, CHAIN, "", "")

    def test_the_option_of_what_is_given_does_not_matter(self):
        for option in ["", " option"]:
            self.check(CHAIN, "ann bob read pay" + option,
                       "dba ann read pay option, dba eve write pay", "bob eve read pay")
            self.check(CHAIN, "bob eve read pay" + option,
                       "dba ann read pay option, ann bob read pay option, dba eve write pay", "")

    def test_only_the_option(self):
        self.check(CHAIN, "dba ann read pay", "dba ann read pay, dba eve write pay",
                   "ann bob read pay option, bob eve read pay", True)
        self.check(CHAIN, "ann bob read pay", "dba ann read pay option, ann bob read pay, dba eve write pay",
                   "bob eve read pay", True)
        self.check(CHAIN, "bob eve read pay, dba eve write pay option", CHAIN, "", True)

    def test_what_was_given_may_fall_with_only_the_option(self):
        self.check(CHAIN, "dba ann read pay, ann bob read pay", "dba ann read pay, dba eve write pay",
                   "ann bob read pay option, bob eve read pay", True)
        self.check(CHAIN, "ann bob read pay, dba ann read pay, bob eve read pay", "dba ann read pay, dba eve write pay",
                   "ann bob read pay option, bob eve read pay", True)

    def test_circles_fall(self):
        self.check(RING, "dba ann read pay", "", "ann bob read pay option, bob ann read pay option, bob eve read pay")
        self.check(RING, "dba ann read pay", "dba ann read pay",
                   "ann bob read pay option, bob ann read pay option, bob eve read pay", True)
        self.check(RING, "bob ann read pay", "dba ann read pay option, ann bob read pay option, bob eve read pay", "")

    def test_another_support_holds(self):
        both = "dba ann read pay option, dba bob read pay option, bob ann read pay option, ann eve read pay"
        self.check(both, "dba ann read pay", "dba bob read pay option, bob ann read pay option, ann eve read pay", "")
        self.check(both, "dba bob read pay", "dba ann read pay option, ann eve read pay", "bob ann read pay option")

    def test_one_grant_given_twice(self):
        twice = "dba ann read pay, dba ann read pay option, dba ann read pay"
        self.check(CHAIN, twice, "dba eve write pay", "ann bob read pay option, bob eve read pay")
        self.check(CHAIN, twice, "dba ann read pay, dba eve write pay",
                   "ann bob read pay option, bob eve read pay", True)
        many = [Grant("dba", "ann", "read", "pay")] * 2500
        self.assertEqual(len(without(office(CHAIN), many)[0]), 1)

    def test_what_fell_is_ascending_and_as_it_was(self):
        system = office("dba ann write pay option, ann public write pay, ann bob write pay option, bob eve write pay, "
                        "dba ann read pay option, ann eve read pay, ann bob read pay")
        _, fallen = without(system, given("dba ann write pay, dba ann read pay"))
        self.assertEqual(fallen, given("ann bob read pay, ann eve read pay, ann bob write pay option, "
                                       "ann public write pay, bob eve write pay"))

    def test_things_and_defaults_stay(self):
        default = Default("ann", "table", "read", "bob", option=True)
        system = System(office().things(), given(CHAIN), [default])
        after = without(system, given("dba ann read pay"))[0]
        self.assertEqual(after, System(office().things(), given("dba eve write pay"), [default]))
        self.assertIn(Grant("dba", "bob", "read", "pay"), after.with_grant(Grant("dba", "bob", "read", "pay")))

    def test_the_system_after_it_forgets_the_options(self):
        after = without(office(CHAIN), given("dba ann read pay"), only_option=True)[0]
        with self.assertRaises(ValueError):
            after.with_grant(Grant("ann", "bob", "read", "pay"))

    def test_all_cases(self):
        for seed in range(200):
            system = random_system(seed, 14)
            dice = Dice(seed)
            grants = [grant for grant in system.grants() if dice.below(4) == 0]
            keys = [grant.key() for grant in grants]
            for only_option in [False, True]:
                left = [grant for grant in system.grants() if grant.key() not in keys]
                if only_option:
                    left = left + [grant.with_option(False) for grant in grants]
                after = System(system.things(), plain_standing(system.things(), left))
                fallen = [grant for grant in system.grants() if after.option_of(*grant.key()) is None
                          and (only_option or grant.key() not in keys)]
                self.assertEqual(without(system, grants, only_option=only_option), (after, fallen))
                self.shown_to_fall(system, left, fallen)

    def shown_to_fall(self, system, left, fallen):
        plain = {grant.key(): grant for grant in left}
        for grant in fallen:
            one = plain[grant.key()]
            self.assertIs(is_cut_off(system, left, one, cut_off(system, left, one)), True)


class WithoutArgumentsTest(unittest.TestCase):
    def test_no_system(self):
        for value in any_values():
            if not isinstance(value, System):
                expect(self, InvalidSystem, "value", value, lambda: without(value, 1, only_option=1))

    def test_no_list(self):
        many = given("dba ann read pay") * 2501
        values = [value for value in any_values() if not isinstance(value, (list, tuple))]
        for value in values + [many, tuple(many)]:
            expect(self, InvalidGrants, "value", value, lambda: without(office(CHAIN), value, only_option=1))

    def test_unknown_grants(self):
        good = Grant("dba", "ann", "read", "pay")
        unknown = given("dba bob read pay, ann dba read pay, dba ann write pay, dba ann read key, zed ned act zed")
        values = [value for value in any_values() if not isinstance(value, Grant)]
        for value in values + unknown + [good.key()]:
            expect(self, UnknownGrant, "value", value, lambda: without(office(CHAIN), [value], only_option=1))
            expect(self, UnknownGrant, "value", value, lambda: without(office(CHAIN), (good, value, None)))

    def test_wrong_flags(self):
        for value in leave_out(any_values(), [True, False]):
            expect(self, InvalidFlag, "value", value, lambda: without(office(CHAIN), [], only_option=value))

    def test_by_position_and_by_name(self):
        grants = given("dba ann read pay")
        self.assertEqual(without(only_option=True, grants=grants, system=office(CHAIN)),
                         without(office(CHAIN), tuple(grants), only_option=True))
        with self.assertRaises(TypeError):
            without(office(CHAIN), grants, True)
        self.assertEqual(grants, given("dba ann read pay"))
        first = without(office(CHAIN), grants)[1]
        first.clear()
        self.assertEqual(len(without(office(CHAIN), grants)[1]), 2)


class SupportTest(unittest.TestCase):
    def test_chains(self):
        system = office(CHAIN)
        chain = given(CHAIN)
        for count in [1, 2, 3]:
            self.assertEqual(support(system, chain[count - 1]), chain[:count])
        self.assertEqual(support(grant=chain[3], system=system), chain[3:])
        self.assertEqual(support(office(RING), given(RING)[2]), given(RING)[:3])

    def test_the_shortest_one(self):
        system = office(RING + ", dba bob read pay option, bob dba read pay option, dba eve read pay option")
        for text in ["bob eve read pay", "bob ann read pay option", "bob dba read pay option"]:
            self.assertEqual(support(system, given(text)[0]), given("dba bob read pay option, " + text))
        self.assertEqual(len(support(system, given("dba eve read pay option")[0])), 1)

    def test_all_cases(self):
        for seed in range(200):
            system = random_system(seed, 16)
            grants = system.grants()
            for grant, rank in ranks(system, grants):
                found = support(system, grant)
                self.assertEqual([len(found), type(found), found[-1]], [rank + 1, list, grant])
                self.assertEqual(system.owner_of(grant.thing), found[0].giver)
                for one, other in zip(found, found[1:]):
                    self.assertEqual((True, one.taker, one.right, one.thing),
                                     (one.option, other.giver, other.right, other.thing))
                self.assertTrue(all(one in grants for one in found))

    def test_wrong_arguments(self):
        for value in any_values():
            if not isinstance(value, System):
                expect(self, InvalidSystem, "value", value, lambda: support(value, value))
            expect(self, UnknownGrant, "value", value, lambda: support(office("dba ann read pay option"), value))
        for text in ["dba ann read pay", "dba eve write pay option", "dba bob read pay", "zed ned act zed"]:
            grant = given(text)[0]
            expect(self, UnknownGrant, "value", grant, lambda: support(office(CHAIN), grant))

    def test_a_new_list_each_time(self):
        system, last = office(CHAIN), given(CHAIN)[2]
        support(system, last).clear()
        self.assertEqual(support(system, last), given(CHAIN)[:3])

    def test_a_long_chain(self):
        names = list("abcdefgh")
        things = [Role(name, "a") for name in names] + [Table("pay", "a")]
        grants = [Grant(one, other, "read", "pay", option=True) for one, other in zip(names, names[1:])]
        self.assertEqual(support(System(things, list(reversed(grants))), grants[-1]), grants)


class ManyGrantsTest(unittest.TestCase):
    def test_the_most_grants(self):
        system = full_system()
        owned = [grant for grant in system.grants() if grant.giver == "a"]
        after, fallen = without(system, owned)
        self.assertEqual([len(after), len(fallen)], [0, 2176 - len(owned)])
        after, fallen = without(system, system.grants(), only_option=True)
        self.assertEqual([len(after), len(fallen)], [len(owned), 2176 - len(owned)])
        after, fallen = without(system, [grant for grant in owned if grant.taker in "bcdefg"])
        self.assertEqual(fallen, [])
        for grant in system.grants()[::100]:
            self.assertIn(len(support(system, grant)), [1, 2])


if __name__ == "__main__":
    unittest.main()
