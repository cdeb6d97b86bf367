"""Reasons for rights that roles have, and barriers for those that they have not [62], [63]."""

import itertools
import unittest

from rolereach.access import barrier, has, is_barrier, is_reason, reason
from rolereach.grants import Grant
from tests.values import any_values
from tests.worlds import full_system, given, office, plain_holds, plain_inherited, questions, random_system

TEXT = "dba ann inherit bob, dba bob inherit eve, dba eve read pay option, eve dba read pay, dba public write pay"
ASKED = ("ann", "read", "pay")


def links():
    return [("ann", "inherit", "bob", Grant("dba", "ann", "inherit", "bob")),
            ("bob", "inherit", "eve", Grant("dba", "bob", "inherit", "eve")),
            ("eve", "read", "pay", Grant("dba", "eve", "read", "pay", option=True))]


def shortest(system, role, right, thing):
    """The least number of links, found by going further and further."""
    reached = [role]
    for count in range(1, 10):
        if any(plain_holds(system, one, right, thing) for one in reached):
            return count
        reached = [other for other in system.names("role")
                   if any(one == other or plain_holds(system, one, "inherit", other) for one in reached)]
    return None


class ReasonTest(unittest.TestCase):
    def test_reasons(self):
        system = office(TEXT)
        self.assertEqual(reason(system, *ASKED), links())
        self.assertEqual(reason(system, "bob", "read", "pay"), links()[1:])
        self.assertEqual(reason(system, "dba", "read", "pay"), [("dba", "read", "pay", None)])
        self.assertEqual(reason(system, "ann", "write", "key"), [links()[0], ("bob", "write", "key", None)])
        self.assertEqual(reason(system, "ann", "write", "pay"),
                         [("ann", "write", "pay", Grant("dba", "public", "write", "pay"))])
        self.assertIsNone(reason(system, "eve", "write", "key"))

    def test_an_owner_inherits_without_a_grant(self):
        self.assertEqual(reason(office(), "dba", "write", "key"),
                         [("dba", "inherit", "bob", None), ("bob", "write", "key", None)])

    def test_the_shortest_one(self):
        system = office(TEXT + ", dba ann inherit eve")
        self.assertEqual([link[:3] for link in reason(system, *ASKED)],
                         [("ann", "inherit", "eve"), ("eve", "read", "pay")])

    def test_all_questions(self):
        for seed in range(120):
            system = random_system(seed, 16)
            for question in questions(system):
                found = reason(system, *question)
                self.assertEqual(None if found is None else len(found), shortest(system, *question))
                if found is not None:
                    self.assertIs(type(found), list)
                    self.assertIs(is_reason(system, *question, found), True)
                    self.assertIs(is_reason(system, *question, tuple(found)), True)

    def test_a_new_list_each_time(self):
        system = office(TEXT)
        reason(system, *ASKED).clear()
        self.assertEqual(len(reason(system, *ASKED)), 3)


class IsReasonTest(unittest.TestCase):
    def check(self, expected, value, asked=ASKED, text=TEXT):
        self.assertIs(is_reason(office(text), *asked, value), expected)

    def test_reasons_that_are_right(self):
        self.check(True, links())
        self.check(True, links()[2:], ("eve", "read", "pay"))
        self.check(True, [("ann", "write", "pay", Grant("dba", "public", "write", "pay"))], ("ann", "write", "pay"))
        self.check(True, [("dba", "inherit", "ann", None)] + links(), ("dba", "read", "pay"))
        # A reason need not be short.
        around = [("dba", "inherit", "dba", None)] * 5 + [("dba", "read", "pay", None)]
        self.check(True, around, ("dba", "read", "pay"))
        around = [("dba", "inherit", "dba", None)] * 2599 + [("dba", "act", "dba", None)]
        self.check(True, around, ("dba", "act", "dba"))

    def test_a_link_more_or_less_or_elsewhere(self):
        rows = links()
        for value in [[], rows[:2], rows[1:], rows[:1], rows[::-1], rows + rows[2:], rows[:1] + rows, [rows],
                      rows[:1] + rows[2:], rows + rows, rows[0], {0: rows}]:
            self.check(False, value)

    def test_another_question(self):
        for asked in [("bob", "read", "pay"), ("ann", "write", "pay"), ("ann", "read", "key"), ("eve", "read", "pay")]:
            self.check(False, links(), asked)

    def test_wrong_links(self):
        for at in range(3):
            link = links()[at]
            holder, right, thing, grant = link
            for wrong in [(holder, right, thing), link + (None,), list(link), (holder, right, thing, None),
                          ("dba", right, thing, grant), ("zed", right, thing, grant), (holder, "act", thing, grant),
                          (holder, right, "key", grant), (holder, right, "zed", grant),
                          (holder, right, thing, grant.key()),
                          (holder, right, thing, grant.with_option(not grant.option)),
                          (holder, right, thing, Grant("bob", holder if holder != "bob" else "dba", right, thing)),
                          (holder, right, thing, Grant("dba", "public", "write", "pay")), ()]:
                self.check(False, links()[:at] + [wrong] + links()[at + 1:])

    def test_an_owner_has_no_grant(self):
        text = "dba ann read pay option, ann dba read pay, dba public read pay"
        self.check(False, [("dba", "read", "pay", Grant("ann", "dba", "read", "pay"))], ("dba", "read", "pay"), text)
        self.check(False, [("dba", "read", "pay", Grant("dba", "public", "read", "pay"))], ("dba", "read", "pay"), text)
        self.check(True, [("dba", "read", "pay", None)], ("dba", "read", "pay"), text)
        self.check(False, [("ann", "read", "pay", None)], ("ann", "read", "pay"), text)

    def test_grants_of_other_takers_rights_and_things(self):
        text = "dba ann read pay, dba bob read pay, dba ann write pay, bob ann read key, dba public read pay"
        for grant, expected in [("dba ann read pay", True), ("dba public read pay", True), ("dba bob read pay", False),
                                ("dba ann write pay", False), ("bob ann read key", False), ("dba eve read pay", False)]:
            self.check(expected, [("ann", "read", "pay", given(grant)[0])], ("ann", "read", "pay"), text)

    def test_only_inherit_leads_on(self):
        text = "dba ann act bob, dba bob read pay, dba ann inherit eve"
        value = [("ann", "act", "bob", Grant("dba", "ann", "act", "bob")),
                 ("bob", "read", "pay", Grant("dba", "bob", "read", "pay"))]
        self.check(False, value, ("ann", "read", "pay"), text)
        value[0] = ("ann", "inherit", "eve", Grant("dba", "ann", "inherit", "eve"))
        self.check(False, value, ("ann", "read", "pay"), text)

    def test_links_through_what_is_no_role(self):
        public = Grant("dba", "public", "read", "pay")
        for middle in ["pay", "run", "public", "zed"]:
            for grant in [None, public]:
                value = [("ann", "inherit", middle, grant), (middle, "read", "pay", grant)]
                self.check(False, value, ASKED, "dba public read pay")
        self.check(True, [("ann", "read", "pay", public)], ASKED, "dba public read pay")

    def test_any_value(self):
        for value in any_values():
            self.check(False, value)
            self.check(False, links()[:2] + [value])
            self.check(False, [value] + links()[1:])
            for at in range(4):
                link = list(links()[2])
                link[at] = value
                self.check(False, links()[:2] + [tuple(link)])


class BarrierTest(unittest.TestCase):
    def test_barriers(self):
        system = office(TEXT)
        self.assertEqual(barrier(system, "eve", "write", "key"), ["eve"])
        self.assertEqual(barrier(system, "ann", "call", "run"), ["ann", "bob", "eve"])
        self.assertIsNone(barrier(system, *ASKED))
        self.assertIsNone(barrier(system, "dba", "write", "key"))

    def test_barriers_that_are_almost_right(self):
        system = office("dba ann inherit bob, dba bob inherit ann, dba eve inherit ann")
        for roles, expected in [
                (["ann", "bob"], True), (("bob", "ann"), True), (["eve", "ann", "bob"], True), (["ann"], False),
                (["bob"], False), ([], False), (["eve"], False), (["ann", "bob", "dba"], False),
                (["ann", "bob", "ann"], False), (["ann", "bob", "zed"], False), (["ann", "bob", "pay"], False),
                (["ann", "bob", "public"], False), ([["ann", "bob"]], False), (["ann", "bob", None], False),
                ({"ann": 1, "bob": 2}, False)]:
            self.assertIs(is_barrier(system, "ann", "read", "pay", roles), expected, roles)
        self.assertIs(is_barrier(system, "eve", "read", "pay", ["ann", "bob"]), False)
        # Each role of a barrier is without the right, not only the first one.
        self.assertIs(is_barrier(system, "ann", "read", "key", ["ann", "bob"]), False)
        self.assertIs(is_barrier(office("dba eve read pay"), "ann", "read", "pay", ["ann", "eve"]), False)
        self.assertIs(is_barrier(office("dba public read pay"), "ann", "read", "pay", ["ann"]), False)

    def test_any_value(self):
        for value in any_values():
            expected = value in (["ann"], ("ann", "bob"))
            self.assertIs(is_barrier(office(), "ann", "read", "pay", value), expected)
            self.assertIs(is_barrier(office(), "ann", "read", "pay", ["ann", value]), value == "bob")

    def test_all_questions(self):
        for seed in range(60):
            system = random_system(seed, 12)
            roles = system.names("role")
            lists = [list(some) for count in range(len(roles) + 1) for some in itertools.combinations(roles, count)]
            for role, right, thing in questions(system)[::3]:
                found = barrier(system, role, right, thing)
                self.assertIs(found is None, has(system, role, right, thing))
                if found is not None:
                    self.assertEqual(found, [one for one in roles if one in found])
                    self.assertIs(is_barrier(system, role, right, thing, found), True)
                for some in lists:
                    closed = all(set(plain_inherited(system, one)) <= set(some) for one in some)
                    plain = role in some and closed and not any(plain_holds(system, one, right, thing) for one in some)
                    self.assertIs(is_barrier(system, role, right, thing, some), plain)

    def test_arguments_are_not_changed(self):
        system, roles, value = office(TEXT), ["bob", "ann"], links()
        is_barrier(system, "ann", "call", "run", roles)
        is_reason(system, *ASKED, value)
        barrier(system, "ann", "call", "run").clear()
        self.assertEqual([roles, value, system], [["bob", "ann"], links(), office(TEXT)])
        self.assertEqual(len(barrier(system, "ann", "call", "run")), 3)


class ManyGrantsTest(unittest.TestCase):
    def test_the_most_grants(self):
        system = full_system()
        for question in questions(system)[::9]:
            found = reason(system, *question)
            self.assertEqual([len(found), is_reason(system, *question, found)], [1, True])
            self.assertIsNone(barrier(system, *question))


if __name__ == "__main__":
    unittest.main()
