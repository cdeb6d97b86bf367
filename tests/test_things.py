import unittest

from rolereach.errors import InvalidAudience, InvalidBody, InvalidMode, InvalidName, InvalidTaker
from rolereach.things import Call, Function, Give, Make, Preset, Role, Table, Take, Thing, Use
from tests.values import NAMES, any_values, expect, without

CLASSES = [(Role, "role", ["inherit", "act"]), (Table, "table", ["read", "write"]), (Function, "function", ["call"])]
EIGHT = ["h", "g", "f", "e", "d", "c", "b", "a"]
BODIES = [[], [Call("g")], [Give("act", "ann", "caller"), Call("g"), Give("read", "pay", "public"), Call("g")]]


class ThingsTest(unittest.TestCase):
    def test_attributes(self):
        for make, kind, rights in CLASSES:
            for name in NAMES:
                thing = make(name, "dba")
                self.assertEqual([thing.name, thing.owner, thing.kind], [name, "dba", kind])
                self.assertIsNone(thing.audience)
                self.assertEqual(thing.rights(), rights)
                self.assertIsInstance(thing, Thing)
            self.assertEqual(make("ann", "ann").owner, "ann")
            self.assertEqual(make(name="pay", owner="dba", audience=["ann"]), make("pay", "dba", audience=["ann"]))
            self.assertIsInstance(repr(make("pay", "dba")), str)
            with self.assertRaises(TypeError):
                make("pay", "dba", ["ann"])

    def test_rights_are_a_new_list_each_time(self):
        for make, _, rights in CLASSES:
            thing = make("pay", "dba")
            thing.rights().append("more")
            self.assertEqual(thing.rights(), rights)

    def test_audience(self):
        for make, _, _ in CLASSES:
            self.assertEqual(make("pay", "dba", audience=[]).audience, [])
            self.assertEqual(make("pay", "dba", audience=("eve", "ann")).audience, ["ann", "eve"])
            self.assertEqual(make("pay", "dba", audience=EIGHT).audience, list(reversed(EIGHT)))
            self.assertIs(type(make("pay", "dba", audience=("eve",)).audience), list)
            self.assertIsNone(make("pay", "dba", audience=None).audience)

    def test_the_audience_is_copied(self):
        for make, _, _ in CLASSES:
            given = ["eve", "ann"]
            thing = make("pay", "dba", audience=given)
            self.assertEqual(given, ["eve", "ann"])
            given.append("bob")
            given[0] = "zed"
            self.assertEqual(thing.audience, ["ann", "eve"])
            first = thing.audience
            self.assertIsNot(first, thing.audience)
            first.clear()
            self.assertEqual(thing.audience, ["ann", "eve"])
            self.assertIs(thing.admits("ann"), True)

    def test_admits(self):
        for make, _, _ in CLASSES:
            for taker in NAMES + ["public"]:
                self.assertIs(make("pay", "dba").admits(taker), True)
                self.assertIs(make("pay", "dba", audience=[]).admits(taker), False)
                self.assertIs(make("pay", "dba", audience=["bob", "ann"]).admits(taker), taker == "ann")
            self.assertIs(make("pay", "dba", audience=EIGHT).admits(taker="h"), True)
            self.assertIs(make("pay", "dba", audience=EIGHT).admits("public"), False)
            # The owner and the name of a thing count no more than other roles.
            self.assertIs(make("pay", "dba", audience=["ann"]).admits("dba"), False)

    def test_admits_takers_only(self):
        for value in without(any_values(), NAMES + ["public"]):
            for make, _, _ in CLASSES:
                for audience in [None, [], ["ann"]]:
                    thing = make("pay", "dba", audience=audience)
                    expect(self, InvalidTaker, "value", value, lambda: thing.admits(value))


class WrongArgumentsTest(unittest.TestCase):
    def refused(self, error, value, action):
        expect(self, error, "value", value, action)

    def test_names(self):
        for value in without(any_values(), NAMES):
            for make, _, _ in CLASSES:
                self.refused(InvalidName, value, lambda: make(value, "dba"))
                self.refused(InvalidName, value, lambda: make("pay", value))

    def test_audiences(self):
        good = [None, [], (), ["ann"], ("ann", "bob")]
        bad = without(any_values(), good) + [EIGHT + ["i"], ["a", "b", "a"], tuple(EIGHT) + ("a",), [["ann"]]]
        for value in bad:
            for make, _, _ in CLASSES:
                self.refused(InvalidAudience, value, lambda: make("pay", "dba", audience=value))
        for value in without(any_values(), NAMES):
            audience = ["ann", value]
            self.refused(InvalidAudience, audience, lambda: Table("pay", "dba", audience=audience))

    def test_modes(self):
        for value in without(any_values() + ["Owner", "owners"], ["owner", "caller"]):
            self.refused(InvalidMode, value, lambda: Function("f", "dba", mode=value))

    def test_bodies(self):
        deeds = [Take("read", "pay", "ann"), Preset("table", "read", "ann"), Use("read", "pay"),
                 Make(Table("pay", "ann")), Role("ann", "ann"), Function("g", "ann"), "call g", None, 1, True,
                 [], [Call("g")], {}]
        for deed in deeds:
            for body in [[deed], (Call("g"), deed), [Call("g"), Call("g"), Call("g"), deed]]:
                self.refused(InvalidBody, body, lambda: Function("f", "dba", body=body))
        for body in [[Call("g")] * 5, (Call("g"),) * 5, [Call("g")] * 2600]:
            self.refused(InvalidBody, body, lambda: Function("f", "dba", body=body))
        for value in any_values():
            if not (isinstance(value, (list, tuple)) and all(isinstance(deed, Call) for deed in value)):
                self.refused(InvalidBody, value, lambda: Function("f", "dba", body=value))

    def test_the_first_wrong_argument_is_due(self):
        bad = [[], {}, "x", {"y": 1}, {"z": 2}]
        good = ["f", "dba", ["ann"], "caller", [Call("g")]]
        errors = [InvalidName, InvalidName, InvalidAudience, InvalidMode, InvalidBody]
        for first in range(5):
            a = good[:first] + bad[first:]
            self.refused(errors[first], a[first], lambda: Function(a[0], a[1], audience=a[2], mode=a[3], body=a[4]))
            for make in [Role, Table]:
                if first < 3:
                    self.refused(errors[first], a[first], lambda: make(a[0], a[1], audience=a[2]))


class FunctionsTest(unittest.TestCase):
    def test_mode_and_body(self):
        for body in BODIES:
            for mode in ["owner", "caller"]:
                function = Function("f", "dba", mode=mode, body=body)
                self.assertEqual([function.mode, function.body(), len(function)], [mode, body, len(body)])
                self.assertEqual(Function("f", "dba", mode=mode, body=tuple(body)), function)
                self.assertIs(type(Function("f", "dba", body=tuple(body)).body()), list)
        function = Function("f", "dba")
        self.assertEqual([function.mode, function.body(), len(function)], ["owner", [], 0])
        self.assertEqual(len(Function("f", "dba", body=[Call("g")] * 4)), 4)

    def test_the_body_is_copied(self):
        given = [Call("g")]
        function = Function("f", "dba", body=given)
        given.append(Call("h"))
        self.assertEqual(function.body(), [Call("g")])
        function.body().clear()
        self.assertEqual(function.body(), [Call("g")])
        self.assertEqual(len(function), 1)
        self.assertIsNot(function.body(), function.body())

    def test_what_follows_the_star_is_passed_by_name_only(self):
        with self.assertRaises(TypeError):
            Function("f", "dba", None, "owner", [])
        self.assertEqual(Function(body=[Call("g")], mode="caller", audience=["ann"], owner="dba", name="f"),
                         Function("f", "dba", audience=["ann"], mode="caller", body=[Call("g")]))


def samples():
    """Things that all differ, made anew by each call."""
    things = []
    for make, _, _ in CLASSES:
        things.extend([make("pay", "dba"), make("key", "dba"), make("pay", "ann"), make("pay", "dba", audience=[]),
                       make("pay", "dba", audience=["ann"]), make("pay", "dba", audience=["ann", "bob"])])
    things.extend([Function("pay", "dba", mode="caller"), Function("pay", "dba", body=[Call("g")]),
                   Function("pay", "dba", body=[Call("g"), Call("h")]),
                   Function("pay", "dba", body=[Call("h"), Call("g")]),
                   Function("pay", "dba", body=[Give("read", "pay", "ann")]),
                   Function("pay", "dba", mode="caller", body=[Call("g")])])
    return things


class EqualityTest(unittest.TestCase):
    def test_equal_things(self):
        for at, one in enumerate(samples()):
            for to, other in enumerate(samples()):
                self.assertIs(one == other, at == to, f"{at} and {to}")
                self.assertIs(one != other, at != to, f"{at} and {to}")

    def test_the_audience_in_any_order(self):
        for make, _, _ in CLASSES:
            self.assertEqual(make("pay", "dba", audience=["bob", "ann"]), make("pay", "dba", audience=("ann", "bob")))

    def test_other_values(self):
        for thing in samples():
            for value in any_values():
                if not isinstance(value, Thing):
                    self.assertIs(thing == value, False)
                    self.assertIs(value == thing, False)
                    self.assertIs(thing != value, True)


if __name__ == "__main__":
    unittest.main()
