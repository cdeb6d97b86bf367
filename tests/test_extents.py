"""Extents and their operators [101]."""

import unittest

from rolereach.errors import InvalidExtent, InvalidLevels, InvalidNames
from rolereach.extents import Extent
from tests.values import any_values, expect, expect_first

READ, WRITE, CALL = ("ann", "read", "pay"), ("bob", "write", "pay"), ("public", "call", "run")

SOME = Extent(["bob", "ann"], {READ: 2, WRITE: 1, CALL: 1})

NO_LEVELS = [
    {READ: 0}, {READ: 3}, {READ: -1}, {READ: True}, {READ: False}, {READ: None}, {READ: "1"}, {READ: [1]}, {CALL: 2},
    {("ann", "read"): 1}, {("ann", "read", "pay", "x"): 1}, {(): 1}, {"ann": 1}, {1: 1}, {"ann read pay": 1},
    {("Ann", "read", "pay"): 1}, {("caller", "read", "pay"): 1}, {("ann", "reads", "pay"): 1},
    {("ann", "pay", "read"): 1}, {("ann", "read", "public"): 1}, {("ann", "read", "P"): 1}, {("", "read", "pay"): 1},
    {READ: 1, WRITE: 4}, {READ: 10 ** 29}, {READ: 1, 2: 1}, [(READ, 1)], [READ], (READ, 1), "levels", None, 0, [], (),
]


class ExtentTest(unittest.TestCase):
    def test_roles_and_levels(self):
        self.assertEqual([SOME.roles(), SOME.levels(), len(SOME)], [["ann", "bob"], {READ: 2, WRITE: 1, CALL: 1}, 3])
        empty = Extent((), {})
        self.assertEqual([empty.roles(), empty.levels(), len(empty), empty.rows()], [[], {}, 0, []])
        eight = Extent(levels={}, roles=tuple("hgfedcba"))
        self.assertEqual(eight.roles(), list("abcdefgh"))

    def test_names_that_are_not_roles_of_any_system(self):
        extent = Extent(["zed"], {("x", "inherit", "y"): 2, ("ann", "call", "ann"): 1})
        self.assertEqual([len(extent), extent.level("ann", "call", "ann")], [2, 1])

    def test_rows(self):
        levels = {("b", "read", "x"): 1, ("ab", "read", "x"): 2, ("a", "write", "x"): 1, ("a", "read", "xy"): 1,
                  ("a", "read", "x"): 2, ("public", "call", "f"): 1, ("a", "act", "x"): 1, ("z", "inherit", "a"): 1}
        rows = Extent([], levels).rows()
        self.assertEqual(rows, sorted(spot + (level,) for spot, level in levels.items()))
        self.assertEqual(Extent([], dict(reversed(list(levels.items())))).rows(), rows)

    def test_level(self):
        self.assertEqual([SOME.level(*READ), SOME.level(*WRITE), SOME.level(*CALL), SOME.level("bob", "read", "pay")],
                         [2, 1, 1, 0])
        self.assertEqual(SOME.level(thing="pay", taker="ann", right="read"), 2)
        for value in any_values():
            self.assertEqual([SOME.level(value, "read", "pay"), SOME.level("ann", value, "pay"),
                              SOME.level("ann", "read", value)], [2 if value == "ann" else 0, 0, 0])

    def test_what_is_returned_is_new(self):
        roles, levels = ["ann"], {READ: 1}
        extent = Extent(roles, levels)
        roles.append("bob")
        levels[WRITE] = 1
        extent.roles().append("eve")
        extent.levels().clear()
        extent.rows().clear()
        self.assertEqual([extent.roles(), extent.levels(), extent.rows()], [["ann"], {READ: 1}, [READ + (1,)]])
        self.assertIsNot(extent.levels(), extent.levels())

    def test_no_names(self):
        names = [[], (), ["ann"], ("ann", "bob")]
        for value in any_values() + [list("abcdefghi"), ["ann", "bob", "ann"]]:
            if value not in names:
                expect(self, InvalidNames, "value", value, lambda: Extent(value, 1))

    def test_no_levels(self):
        for value in any_values() + NO_LEVELS:
            if value != {} or not isinstance(value, dict):
                expect(self, InvalidLevels, "value", value, lambda: Extent(["ann"], value))
        expect_first(self, Extent, [["ann"], {}], [("ann", InvalidNames, "value"), (1, InvalidLevels, "value")])

    def test_equality(self):
        same = Extent(("ann", "bob"), {CALL: 1, WRITE: 1, READ: 2})
        self.assertTrue(SOME == same and not SOME != same)
        for other in [Extent(["ann"], SOME.levels()), Extent(["ann", "bob", "eve"], SOME.levels()),
                      Extent(SOME.roles(), {READ: 1, WRITE: 1, CALL: 1}), Extent(SOME.roles(), {READ: 2, WRITE: 1}),
                      Extent([], {})] + [value for value in any_values() if not isinstance(value, Extent)]:
            self.assertFalse(SOME == other)
            self.assertTrue(SOME != other)


def some_extents():
    levels = [{}, {READ: 1}, {READ: 2}, {READ: 1, CALL: 1}, {WRITE: 2, CALL: 1}, {READ: 2, WRITE: 1}]
    return [Extent(roles, part) for roles in [[], ["ann"], ["bob"], ["ann", "bob"]] for part in levels]


class OperatorTest(unittest.TestCase):
    def test_order(self):
        for one in some_extents():
            for other in some_extents():
                within = (set(one.roles()) <= set(other.roles())
                          and all(level <= other.level(*spot) for spot, level in one.levels().items()))
                self.assertEqual([one <= other, other >= one], [within, within])

    def test_both(self):
        for one in some_extents():
            for other in some_extents():
                union, common = one | other, one & other
                self.assertEqual(union.roles(), sorted(set(one.roles()) | set(other.roles())))
                self.assertEqual(common.roles(), sorted(set(one.roles()) & set(other.roles())))
                spots = set(one.levels()) | set(other.levels())
                self.assertEqual(union.levels(), {spot: max(one.level(*spot), other.level(*spot)) for spot in spots})
                least = {spot: min(one.level(*spot), other.level(*spot)) for spot in spots}
                self.assertEqual(common.levels(), {spot: level for spot, level in least.items() if level > 0})
                self.assertTrue(one <= union and union >= other and common <= one and other >= common)

    def test_operators_change_nothing(self):
        one, other = Extent(["ann"], {READ: 1}), Extent(["bob"], {READ: 2, WRITE: 1})
        for result in [one | other, other | one, one & other, other & one]:
            result.levels().clear()
        self.assertEqual([one, other], [Extent(["ann"], {READ: 1}), Extent(["bob"], {READ: 2, WRITE: 1})])

    def test_eight_roles_together(self):
        one, other = Extent("a b c d e".split(), {}), Extent("d e f g h".split(), {})
        self.assertEqual([(one | other).roles(), (one & other).roles()], [list("abcdefgh"), ["d", "e"]])

    def test_the_other_operand(self):
        for value in any_values():
            if not isinstance(value, Extent):
                for action in [lambda: SOME <= value, lambda: SOME >= value, lambda: SOME | value,
                               lambda: SOME & value]:
                    expect(self, InvalidExtent, "value", value, action)


if __name__ == "__main__":
    unittest.main()
