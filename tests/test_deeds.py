import unittest

from rolereach.errors import InvalidFlag, InvalidKind, InvalidName, InvalidRight, InvalidTaker, InvalidThing
from rolereach.things import Call, Deed, Function, Give, Make, Preset, Role, Table, Take, Use
from tests.values import NAMES, any_values, expect, without

RIGHTS = ["inherit", "act", "read", "write", "call"]
FLAGS = [True, False]


def samples():
    """Deeds that all differ, made anew by each call."""
    return [
        Give("read", "pay", "ann"), Give("write", "pay", "ann"), Give("read", "key", "ann"),
        Give("read", "pay", "bob"), Give("read", "pay", "ann", option=True), Give("read", "pay", "public"),
        Give("read", "pay", "caller"), Give("read", "pay", "caller", option=True),
        Take("read", "pay", "ann"), Take("write", "pay", "ann"), Take("read", "key", "ann"),
        Take("read", "pay", "bob"), Take("read", "pay", "ann", giver="dba"),
        Take("read", "pay", "ann", giver="bob"), Take("read", "pay", "ann", only_option=True),
        Take("read", "pay", "ann", cascade=True), Take("read", "pay", "ann", only_option=True, cascade=True),
        Call("open"), Call("pay"), Use("read", "pay"), Use("write", "pay"), Use("read", "key"),
        Preset("table", "read", "ann"), Preset("table", "write", "ann"), Preset("table", "read", "bob"),
        Preset("table", "read", "ann", option=True), Preset("function", "call", "ann"),
        Make(Table("pay", "ann")), Make(Table("pay", "bob")), Make(Function("pay", "ann")),
        Make(Table("pay", "ann", audience=[])), Make(Function("pay", "ann", body=[Call("open")])),
    ]


class RightfulDeedsTest(unittest.TestCase):
    def test_give(self):
        for right in RIGHTS:
            for taker in NAMES + ["caller"]:
                for option in FLAGS:
                    deed = Give(right, "pay", taker, option=option)
                    self.assertEqual([deed.right, deed.thing, deed.taker], [right, "pay", taker])
                    self.assertIs(deed.option, option)
        self.assertIs(Give("read", "pay", "ann").option, False)
        self.assertIs(Give("read", "pay", "public", option=False).option, False)

    def test_take(self):
        for right in RIGHTS:
            for taker in NAMES + ["public"]:
                for giver in [None, "dba", taker]:
                    if giver != "public":
                        deed = Take(right, "pay", taker, giver=giver)
                        self.assertEqual([deed.right, deed.thing, deed.taker, deed.giver], [right, "pay", taker, giver])
        for only_option in FLAGS:
            for cascade in FLAGS:
                deed = Take("act", "ann", "public", only_option=only_option, cascade=cascade)
                self.assertIs(deed.only_option, only_option)
                self.assertIs(deed.cascade, cascade)
        deed = Take("act", "ann", "bob")
        self.assertEqual([deed.giver, deed.only_option, deed.cascade], [None, False, False])

    def test_call_and_use(self):
        for name in NAMES:
            self.assertEqual(Call(name).function, name)
            for right in RIGHTS:
                deed = Use(right, name)
                self.assertEqual([deed.right, deed.thing], [right, name])

    def test_preset(self):
        for kind, right in [("table", "read"), ("table", "write"), ("function", "call")]:
            for option in FLAGS:
                deed = Preset(kind, right, "ann", option=option)
                self.assertEqual([deed.kind, deed.right, deed.taker], [kind, right, "ann"])
                self.assertIs(deed.option, option)
        self.assertIs(Preset("table", "read", "public").option, False)

    def test_make(self):
        for thing in [Table("pay", "ann"), Function("pay", "ann"), Function("pay", "ann", body=[Call("f")])]:
            self.assertIs(Make(thing).thing, thing)

    def test_arguments_by_name(self):
        self.assertEqual(Give(right="read", thing="pay", taker="ann", option=True),
                         Give("read", "pay", "ann", option=True))
        self.assertEqual(Take(cascade=True, only_option=True, giver="dba", taker="ann", thing="pay", right="read"),
                         Take("read", "pay", "ann", giver="dba", only_option=True, cascade=True))
        self.assertEqual(Call(function="f"), Call("f"))
        self.assertEqual(Preset(kind="table", right="read", taker="ann", option=True),
                         Preset("table", "read", "ann", option=True))
        self.assertEqual(Use(right="read", thing="pay"), Use("read", "pay"))
        self.assertEqual(Make(thing=Table("pay", "ann")), Make(Table("pay", "ann")))

    def test_what_follows_the_star_is_passed_by_name_only(self):
        for action in [lambda: Give("read", "pay", "ann", True), lambda: Take("read", "pay", "ann", "dba"),
                       lambda: Preset("table", "read", "ann", True)]:
            with self.assertRaises(TypeError):
                action()


class WrongArgumentsTest(unittest.TestCase):
    def refused(self, error, value, action):
        expect(self, error, "value", value, action)

    def test_rights(self):
        for value in without(any_values() + ["Read", "table"], RIGHTS):
            self.refused(InvalidRight, value, lambda: Give(value, "pay", "ann"))
            self.refused(InvalidRight, value, lambda: Take(value, "pay", "ann"))
            self.refused(InvalidRight, value, lambda: Use(value, "pay"))
            self.refused(InvalidRight, value, lambda: Preset("table", value, "ann"))

    def test_rights_of_other_kinds_in_a_preset(self):
        for kind, rights in [("table", ["inherit", "act", "call"]), ("function", ["inherit", "act", "read", "write"])]:
            for right in rights:
                self.refused(InvalidRight, right, lambda: Preset(kind, right, "ann"))

    def test_kinds(self):
        for value in without(any_values() + ["role", "Table", "tables"], ["table", "function"]):
            self.refused(InvalidKind, value, lambda: Preset(value, "read", "ann"))
        self.refused(InvalidKind, "role", lambda: Preset("role", "act", "ann"))

    def test_things_and_functions(self):
        for value in without(any_values(), NAMES):
            self.refused(InvalidName, value, lambda: Give("read", value, "ann"))
            self.refused(InvalidName, value, lambda: Take("read", value, "ann"))
            self.refused(InvalidName, value, lambda: Use("read", value))
            self.refused(InvalidName, value, lambda: Call(value))

    def test_takers(self):
        for value in without(any_values(), NAMES + ["public"]):
            self.refused(InvalidTaker, value, lambda: Take("read", "pay", value))
            self.refused(InvalidTaker, value, lambda: Preset("table", "read", value))
        for value in without(any_values(), NAMES + ["public", "caller"]):
            self.refused(InvalidTaker, value, lambda: Give("read", "pay", value))

    def test_givers(self):
        for value in without(any_values(), NAMES + [None]):
            self.refused(InvalidName, value, lambda: Take("read", "pay", "ann", giver=value))

    def test_flags(self):
        for value in without(any_values(), FLAGS):
            for taker in ["ann", "caller", "public"]:
                self.refused(InvalidFlag, value, lambda: Give("read", "pay", taker, option=value))
            for taker in ["ann", "public"]:
                self.refused(InvalidFlag, value, lambda: Preset("table", "read", taker, option=value))
            self.refused(InvalidFlag, value, lambda: Take("read", "pay", "ann", only_option=value))
            self.refused(InvalidFlag, value, lambda: Take("read", "pay", "ann", cascade=value))

    def test_an_option_for_public(self):
        self.refused(InvalidFlag, True, lambda: Give("read", "pay", "public", option=True))
        self.refused(InvalidFlag, True, lambda: Preset("table", "read", "public", option=True))
        self.assertIs(Take("read", "pay", "public", only_option=True).only_option, True)

    def test_what_is_made(self):
        for value in any_values():
            if not isinstance(value, (Table, Function)):
                self.refused(InvalidThing, value, lambda: Make(value))
        role = Role("ann", "ann")
        self.refused(InvalidThing, role, lambda: Make(role))

    def test_the_first_wrong_argument_is_due(self):
        bad = [[], {}, [1], (2,), {"x": 3}, [["y"]]]
        good = ["read", "pay", "ann", "dba", True, False]
        errors = [InvalidRight, InvalidName, InvalidTaker, InvalidName, InvalidFlag, InvalidFlag]
        for first in range(6):
            a = good[:first] + bad[first:]
            self.refused(errors[first], a[first],
                         lambda: Take(a[0], a[1], a[2], giver=a[3], only_option=a[4], cascade=a[5]))
        good = ["read", "pay", "ann", True]
        errors = [InvalidRight, InvalidName, InvalidTaker, InvalidFlag]
        for first in range(4):
            a = good[:first] + bad[first:4]
            self.refused(errors[first], a[first], lambda: Give(a[0], a[1], a[2], option=a[3]))
        good = ["table", "write", "ann", True]
        errors = [InvalidKind, InvalidRight, InvalidTaker, InvalidFlag]
        for first in range(4):
            a = good[:first] + bad[first:4]
            self.refused(errors[first], a[first], lambda: Preset(a[0], a[1], a[2], option=a[3]))
        self.refused(InvalidRight, bad[0], lambda: Use(bad[0], bad[1]))
        self.refused(InvalidName, bad[1], lambda: Use("call", bad[1]))


class EqualityTest(unittest.TestCase):
    def test_equal_deeds(self):
        for at, one in enumerate(samples()):
            for to, other in enumerate(samples()):
                self.assertIs(one == other, at == to, f"{one} and {other}")
                self.assertIs(one != other, at != to, f"{one} and {other}")

    def test_equality_of_what_is_made(self):
        one = Make(Table("pay", "ann", audience=["ann", "bob"]))
        self.assertEqual(one, Make(Table("pay", "ann", audience=("bob", "ann"))))

    def test_other_values(self):
        for deed in samples():
            for value in any_values():
                if not isinstance(value, Deed):
                    self.assertIs(deed == value, False)
                    self.assertIs(deed != value, True)
                    self.assertIs(value == deed, False)

    def test_they_are_deeds(self):
        for deed in samples():
            self.assertIsInstance(deed, Deed)
            self.assertEqual(repr(deed), repr(deed))
            self.assertIsInstance(repr(deed), str)


if __name__ == "__main__":
    unittest.main()
