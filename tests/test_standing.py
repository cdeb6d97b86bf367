"""What stands, with rankings and cuts that show it [51] to [53]."""

import itertools
import unittest

from rolereach.errors import DuplicateGrant, InvalidGrant, InvalidGrants, InvalidSystem, UnknownGrant
from rolereach.grants import Grant
from rolereach.standing import cut_off, is_cut_off, is_ranking, ranks, standing
from rolereach.systems import System
from rolereach.things import Role, Table
from tests.values import any_values, expect
from tests.worlds import full_system, given, office, plain_ranks, plain_standing, random_case

CHAIN = "dba ann read pay option, ann bob read pay option, bob eve read pay"
CIRCLE = "ann bob read pay option, bob ann read pay option, ann eve read pay"

# Each function of the stage, with good arguments after the grants, if it takes any.
CALLS = [
    lambda system, grants: standing(system, grants),
    lambda system, grants: ranks(system, grants),
    lambda system, grants: is_ranking(system, grants, []),
    lambda system, grants: is_cut_off(system, grants, None, None),
    lambda system, grants: cut_off(system, grants, None),
]


class ArgumentsTest(unittest.TestCase):
    def test_no_system(self):
        for value in any_values():
            for call in CALLS:
                if not isinstance(value, System):
                    expect(self, InvalidSystem, "value", value, lambda: call(value, 1))
                    expect(self, InvalidSystem, "value", value, lambda: call(value, []))

    def test_no_list_of_grants(self):
        many = [Grant("dba", "ann", "read", "pay")] * 2501
        for value in [value for value in any_values() if not isinstance(value, (list, tuple))] + [many, tuple(many)]:
            for call in CALLS:
                expect(self, InvalidGrants, "value", value, lambda: call(office(), value))

    def test_items(self):
        good = Grant("ann", "bob", "read", "pay")
        values = [value for value in any_values() if not isinstance(value, Grant)]
        bad = ["zed ann read pay", "dba zed read pay", "dba ann read zed", "dba ann act pay", "bob dba read key",
               "bob public read key"]
        for value in values + [given(text)[0] for text in bad]:
            for call in CALLS:
                expect(self, InvalidGrant, "value", value, lambda: call(office(), [value]))
                expect(self, InvalidGrant, "value", value, lambda: call(office(), (good, value, good)))

    def test_duplicates(self):
        for first, second in itertools.product([False, True], repeat=2):
            one = Grant("ann", "bob", "read", "pay", option=first)
            other = Grant("ann", "bob", "read", "pay", option=second)
            for call in CALLS:
                expect(self, DuplicateGrant, "value", other, lambda: call(office(), [one, other, None]))

    def test_arguments_by_name_and_tuples(self):
        grants = given(CHAIN)
        self.assertEqual(standing(grants=tuple(grants), system=office()), standing(office(), grants))
        self.assertEqual(ranks(grants=tuple(grants), system=office()), ranks(office(), grants))
        self.assertIs(is_ranking(rows=ranks(office(), grants), grants=tuple(grants), system=office()), True)
        self.assertIs(is_cut_off(roles=[], grant=grants[0], grants=tuple(grants), system=office()), False)
        self.assertIsNone(cut_off(grant=grants[0], grants=tuple(grants), system=office()))

    def test_arguments_are_not_changed(self):
        grants, rows, roles = given(CIRCLE + ", dba eve read pay"), [(1, 2)], ["bob", "ann"]
        system, last = office("dba ann act bob"), grants[2]
        standing(system, grants).clear()
        ranks(system, grants).clear()
        is_ranking(system, grants, rows)
        is_cut_off(system, grants, last, roles)
        cut_off(system, grants, last).clear()
        self.assertEqual([grants, rows, roles], [given(CIRCLE + ", dba eve read pay"), [(1, 2)], ["bob", "ann"]])
        self.assertEqual(system, office("dba ann act bob"))
        found = [standing(system, grants), ranks(system, grants), cut_off(system, grants, last)]
        self.assertEqual([len(part) for part in found], [1, 1, 2])


class StandingTest(unittest.TestCase):
    def test_chains_and_circles(self):
        self.assertEqual(standing(office(), given(CHAIN)), sorted(given(CHAIN)))
        self.assertEqual(standing(office(), given(CIRCLE)), [])
        self.assertEqual(standing(office(), given(CIRCLE + ", dba ann read pay")), given("dba ann read pay"))
        grants = given(CIRCLE + ", dba bob read pay option")
        self.assertEqual(standing(office(), grants), sorted(grants))
        self.assertEqual(standing(office(), []), [])

    def test_the_grants_of_the_system_do_not_count(self):
        system = office("dba ann read pay option")
        self.assertEqual(standing(system, given("ann bob read pay")), [])
        self.assertEqual(standing(system, given("dba bob read pay")), given("dba bob read pay"))

    def test_with_and_without_the_option(self):
        for option, count in [("", 1), (" option", 2)]:
            self.assertEqual(len(standing(office(), given(f"dba ann read pay{option}, ann bob read pay"))), count)
        public = given("dba public read pay")
        self.assertEqual(standing(office(), public + given("ann bob read pay")), public)

    def test_other_rights_and_things_do_not_count(self):
        grants = given("dba ann read pay option, bob ann read key option, dba eve inherit ann option, "
                       "ann bob write pay, eve bob act ann, eve bob inherit bob")
        self.assertEqual(standing(office(), grants), sorted(grants[:3]))

    def test_all_cases(self):
        for seed in range(300):
            system, grants = random_case(seed, 14)
            self.assertEqual(standing(system, grants), sorted(plain_standing(system.things(), grants)))


class RanksTest(unittest.TestCase):
    def test_ranks(self):
        grants = given(CHAIN)
        self.assertEqual(ranks(office(), grants), [(grants[1], 1), (grants[2], 2), (grants[0], 0)])
        self.assertEqual(ranks(office(), given(CIRCLE)), [])
        shorter = grants + given("dba bob read pay option")
        self.assertEqual([rank for _, rank in ranks(office(), shorter)], [1, 1, 0, 0])
        plain = grants + given("dba bob read pay")
        self.assertEqual([rank for _, rank in ranks(office(), plain)], [1, 2, 0, 0])

    def test_the_owner_has_rank_nought(self):
        grants = given("dba ann read pay option, ann dba read pay option, dba bob read pay")
        self.assertEqual(ranks(office(), grants), [(grants[1], 1), (grants[0], 0), (grants[2], 0)])

    def test_rows_are_tuples(self):
        for row in ranks(office(), given(CHAIN)):
            self.assertEqual([type(row), type(row[1])], [tuple, int])

    def test_all_cases(self):
        for seed in range(300):
            system, grants = random_case(seed, 14)
            rows = sorted(plain_ranks(system.things(), grants), key=lambda row: row[0].place)
            self.assertEqual(ranks(system, grants), rows)
            self.assertIs(is_ranking(system, grants, rows), len(rows) == len(grants))
            self.assertIs(is_ranking(system, [grant for grant, _ in rows], list(reversed(rows))), True)


class RankingTest(unittest.TestCase):
    def setUp(self):
        self.grants = given(CHAIN)
        self.rows = [(grant, rank) for rank, grant in enumerate(self.grants)]

    def check(self, expected, rows, grants=None):
        self.assertIs(is_ranking(office(), self.grants if grants is None else grants, rows), expected)

    def test_rankings(self):
        for rows in itertools.permutations(self.rows):
            self.check(True, list(rows))
            self.check(True, rows)
        self.check(True, [], [])
        self.check(True, (), ())
        self.check(True, [(Grant("dba", "ann", "read", "pay", option=True), 0)] + self.rows[1:])

    def test_numbers_need_not_be_ranks(self):
        for numbers in [(0, 1, 2), (5, 7, 9), (0, 10 ** 28, 10 ** 29)]:
            self.check(True, list(zip(self.grants, numbers)))
        for numbers in [(0, 1, 1), (1, 1, 2), (2, 1, 3), (0, 2, 1), (0, 0, 0), (3, 2, 1), (-1, 0, 1), (0, -1, -2)]:
            self.check(False, list(zip(self.grants, numbers)))
        # The number of a grant of the owner is free.
        both = given("dba ann read pay option, dba bob read pay")
        self.check(True, [(both[0], 7), (both[1], 0)], both)

    def test_a_row_more_less_or_twice(self):
        more = Grant("dba", "bob", "write", "pay")
        for rows in [self.rows[:2], self.rows[1:], [], self.rows + [(more, 0)], self.rows + [self.rows[0]],
                     [self.rows[0]] + self.rows, self.rows + [(self.grants[2], 5)], self.rows[:2] + [self.rows[1]],
                     self.rows[:2] + [(more, 2)]]:
            self.check(False, rows)
        self.check(False, self.rows[:1], [])

    def test_a_grant_with_another_option(self):
        self.check(False, self.rows[:2] + [(self.grants[2].with_option(True), 2)])
        self.check(False, [(self.grants[0].with_option(False), 0)] + self.rows[1:])

    def test_only_the_option_supports(self):
        grants = given("dba ann read pay, ann bob read pay")
        self.check(False, [(grants[0], 0), (grants[1], 1)], grants)
        grants = given("dba ann write pay option, ann bob read pay")
        self.check(False, [(grants[0], 0), (grants[1], 1)], grants)

    def test_one_of_several_supporters_is_enough(self):
        grants = given("dba ann read pay option, dba bob read pay option, bob ann read pay option, ann eve read pay")
        self.check(True, list(zip(grants, [3, 4, 5, 4])), grants)
        self.check(True, list(zip(grants, [9, 4, 5, 6])), grants)
        self.check(False, list(zip(grants, [4, 4, 5, 4])), grants)

    def test_circles_have_no_ranking(self):
        grants = given(CIRCLE)
        for numbers in itertools.product(range(4), repeat=3):
            self.check(False, list(zip(grants, numbers)), grants)

    def test_values_that_are_no_rows(self):
        for value in any_values():
            self.check(value in ([], ()) and isinstance(value, (list, tuple)), value, [])
            self.check(False, value)
            self.check(False, self.rows[:2] + [value])
            self.check(False, self.rows[:2] + [(value, 2)])
            number = isinstance(value, int) and not isinstance(value, bool) and value > 1
            self.check(number, self.rows[:2] + [(self.grants[2], value)])
        for row in [list(self.rows[2]), self.rows[2] + (0,), self.rows[2][:1], (2, self.grants[2]), self.grants[2]]:
            self.check(False, self.rows[:2] + [row])

    def test_flags_are_no_numbers(self):
        self.check(False, [(self.grants[0], False)] + self.rows[1:])
        self.check(False, [self.rows[0], (self.grants[1], True), self.rows[2]])

    def test_all_small_cases(self):
        for seed in range(60):
            system, grants = random_case(seed, 4)
            for numbers in itertools.product(range(3), repeat=len(grants)):
                rows = list(zip(grants, numbers))
                expected = all(system.owner_of(grant.thing) == grant.giver or any(
                    one.option and (one.taker, one.right, one.thing) == (grant.giver, grant.right, grant.thing)
                    and lower < number for one, lower in rows) for grant, number in rows)
                self.assertIs(is_ranking(system, grants, rows), expected)


class CutOffTest(unittest.TestCase):
    def test_unknown_grants(self):
        grants = given(CHAIN)
        for value in any_values() + [grants[0].key(), grants[0].with_option(False), grants[2].with_option(True),
                                     Grant("dba", "bob", "read", "pay"), Grant("zed", "ned", "read", "zed")]:
            expect(self, UnknownGrant, "value", value, lambda: cut_off(office(), grants, value))
            expect(self, UnknownGrant, "value", value, lambda: is_cut_off(office(), grants, value, 1))
        # A grant of the system is none of the grants.
        with self.assertRaises(UnknownGrant):
            cut_off(office(CHAIN), [], grants[0])

    def test_cuts(self):
        grants = given(CIRCLE)
        for grant in grants:
            found = cut_off(office(), grants, grant)
            self.assertIs(is_cut_off(office(), grants, grant, found), True)
            self.assertEqual(found, ["ann", "bob"])
        grants = given("eve bob read pay, dba eve read pay")
        self.assertEqual(cut_off(office(), grants, grants[0]), ["eve"])
        self.assertIsNone(cut_off(office(), grants, grants[1]))
        self.assertIsNone(cut_off(office(), given(CHAIN), given(CHAIN)[2]))

    def test_cuts_that_are_almost_right(self):
        grants = given(CIRCLE + ", dba eve read pay")
        for roles, expected in [
                (["ann", "bob"], True), (("bob", "ann"), True), (["ann", "bob", "eve"], True), (["ann"], False),
                (["bob"], False), ([], False), (["bob", "eve"], False), (["ann", "bob", "dba"], False),
                (["ann", "bob", "ann"], False), (["ann", "bob", "zed"], False), (["ann", "bob", "pay"], False),
                (["ann", "bob", "public"], False), ([["ann", "bob"]], False), (["ann", "bob", True], False)]:
            self.assertIs(is_cut_off(office(), grants, grants[0], roles), expected, roles)
            self.assertIs(is_cut_off(office(), grants, grants[2], roles), expected, roles)
        for roles in [["ann", "bob"], ["dba"], ["eve"], []]:
            self.assertIs(is_cut_off(office(), grants, grants[3], roles), False)

    def test_grants_without_the_option_may_cross(self):
        grants = given("dba ann read pay, ann bob read pay, eve ann write pay option, dba ann write pay option")
        self.assertIs(is_cut_off(office(), grants, grants[1], ["ann"]), True)
        self.assertIs(is_cut_off(office(), grants, grants[2], ["eve"]), True)
        self.assertIs(is_cut_off(office(), grants, grants[2], ["eve", "ann"]), False)

    def test_any_value(self):
        grants = given(CIRCLE)
        for value in any_values():
            expected = value in (["ann", "bob"], ("ann", "bob"))
            self.assertIs(is_cut_off(office(), grants, grants[0], value), expected)
            self.assertIs(is_cut_off(office(), grants, grants[0], ["ann", "bob", value]), value == "eve")

    def test_the_list_is_ascending_as_strings(self):
        roles = ["z", "ab", "dba", "b", "a"]
        system = System([Role(name, "dba") for name in roles] + [Table("pay", "dba")])
        grants = given("b z read pay option, ab b read pay option, a ab read pay option, z a read pay option")
        self.assertEqual(cut_off(system, grants, grants[0]), ["a", "ab", "b", "z"])

    def test_all_cases(self):
        for seed in range(150):
            system, grants = random_case(seed, 12)
            roles = system.names("role")
            lists = [list(some) for count in range(len(roles) + 1) for some in itertools.combinations(roles, count)]
            standing_ones = plain_standing(system.things(), grants)
            for grant in grants[:4]:
                cuts = [some for some in lists if self.plainly_cuts(system, grants, grant, some)]
                for some in lists:
                    self.assertIs(is_cut_off(system, grants, grant, some), some in cuts)
                self.assertEqual(cuts == [], grant in standing_ones)
                found = cut_off(system, grants, grant)
                if grant in standing_ones:
                    self.assertIsNone(found)
                else:
                    self.assertEqual(found, sorted(found))
                    self.assertIs(is_cut_off(system, grants, grant, found), True)

    def plainly_cuts(self, system, grants, grant, roles):
        same = [one for one in grants if one.option and (one.right, one.thing) == (grant.right, grant.thing)]
        return (grant.giver in roles and system.owner_of(grant.thing) not in roles
                and all(one.giver in roles for one in same if one.taker in roles))


class ManyGrantsTest(unittest.TestCase):
    def test_the_most_grants(self):
        system = full_system()
        grants = system.grants()
        self.assertEqual(standing(system, grants), grants)
        rows = ranks(system, grants)
        self.assertEqual([len(rows), max(rank for _, rank in rows)], [2176, 1])
        self.assertIs(is_ranking(system, grants, rows), True)
        self.assertIs(is_ranking(system, grants, rows[:-1] + [(rows[-1][0], True)]), False)
        loose = [grant for grant in grants if grant.giver != "a"]
        self.assertEqual([standing(system, loose), ranks(system, loose)], [[], []])
        self.assertEqual(cut_off(system, loose, loose[0]), list("bcdefgh"))
        self.assertIs(is_cut_off(system, loose, loose[-1], list("hgfedcb")), True)


if __name__ == "__main__":
    unittest.main()
