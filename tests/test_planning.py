"""Plans for goals that need much: each kind of thing that a step may need [114]."""

import unittest

from rolereach.extents import rounds
from rolereach.plans import can_ever, is_lean
from rolereach.systems import System
from rolereach.things import Call, Function, Give, Role, Table
from tests.plain_plans import plain_is_lean
from tests.worlds import given


def world(*functions, grants, roles="a b c d e"):
    """Roles and tables of a, and functions of a from tuples (name, body)."""
    things = [Role(name, "a") for name in roles.split()] + [Table("t", "a"), Table("u", "a", audience=["b", "c"])]
    return System(things + [Function(name, "a", body=body) for name, body in functions], given(grants))


class PlanningTest(unittest.TestCase):
    def steps(self, system, team, goal):
        """The steps of the plan that is returned, which is lean."""
        word, plan = can_ever(system, team, goal)
        self.assertEqual(word, "plan")
        self.assertTrue(is_lean(system, team, goal, plan) and plain_is_lean(system, team, goal, plan))
        return [" ".join(step.path()) + " : " + str(step.deed) for step in plan]

    def test_a_role_to_act_as(self):
        system = world(("f", [Give("act", "c", "caller")]), ("g", [Give("act", "d", "caller")]),
                       grants="a b call f, a c call g")
        self.assertEqual(self.steps(system, ["b"], ("act", "d")), ["b : call f", "b c : call g"])
        self.assertEqual(self.steps(system, ["b"], ("has", "c", "act", "d")), ["b : call f", "b c : call g"])
        self.assertEqual(self.steps(system, ["b", "c"], ("act", "d")), ["c : call g"])
        self.assertEqual(self.steps(system, ["b", "d"], ("act", "d")), [])

    def test_a_role_to_act_as_by_what_is_inherited(self):
        system = world(("f", [Give("inherit", "c", "b")]), grants="a b call f, a c act d, a d act e, a e read t option")
        self.assertEqual(self.steps(system, ["b"], ("act", "e")), ["b : call f"])
        self.assertEqual(self.steps(system, ["b"], ("has", "c", "read", "t")), ["b : call f", "b d e : give read t c"])
        self.assertEqual([extent.roles() for extent in rounds(system, ["b"])][:2], [["b"], ["b", "d", "e"]])

    def test_what_public_gets(self):
        body = [Give("call", "g", "public"), Give("inherit", "c", "public")]
        system = world(("g", [Give("read", "t", "public")]), ("f", body), grants="a b call f, a c write t option")
        self.assertEqual(self.steps(system, ["b"], ("has", "d", "call", "g")), ["b : call f"])
        self.assertEqual(self.steps(system, ["b"], ("has", "e", "read", "t")), ["b : call f", "b : call g"])
        self.assertEqual(self.steps(system, ["b", "d"], ("use", "write", "t")), ["b : call f"])
        system = world(("f", [Give("act", "c", "public")]), grants="a b call f, a c read t option")
        self.assertEqual(self.steps(system, ["b"], ("has", "d", "read", "t")), ["b : call f", "b c : give read t d"])

    def test_what_is_inherited_step_by_step(self):
        system = world(("f", [Give("inherit", "c", "b")]), ("g", [Give("inherit", "d", "c")]),
                       ("h", [Give("read", "t", "d")]), grants="a b call f, a c call g, a d call h")
        self.assertEqual(self.steps(system, ["b"], ("has", "b", "read", "t")),
                         ["b : call f", "b : call g", "b : call h"])
        self.assertEqual(self.steps(system, ["b"], ("has", "d", "read", "t")),
                         ["b : call f", "b : call g", "b : call h"])

    def test_the_option_is_needed_and_not_only_the_right(self):
        plain, more = Give("read", "t", "b"), Give("read", "t", "b", option=True)
        for functions in [(("f", [plain]), ("g", [more])), (("f", [more]), ("g", [plain]))]:
            system = world(*functions, grants="a b call f, a b call g")
            name = "f" if functions[0][1] == [more] else "g"
            self.assertEqual(self.steps(system, ["b"], ("option", "b", "read", "t")), ["b : call " + name])
            self.assertEqual(self.steps(system, ["b"], ("has", "c", "read", "t")),
                             ["b : call " + name, "b : give read t c"])
        both = world(("f", [plain]), ("g", [more]), grants="a b call f, a b call g")
        self.assertEqual(len(self.steps(both, ["b"], ("has", "b", "read", "t"))), 1)

    def test_the_option_comes_in_a_later_round(self):
        system = world(("f", [Give("read", "t", "b"), Give("call", "g", "b")]),
                       ("g", [Give("read", "t", "b", option=True)]),
                       grants="a b call f")
        self.assertEqual(self.steps(system, ["b"], ("has", "b", "read", "t")), ["b : call f"])
        self.assertEqual(self.steps(system, ["b"], ("option", "b", "read", "t")), ["b : call f", "b : call g"])

    def test_what_the_body_of_a_call_within_a_call_needs(self):
        system = System([Role(name, "a") for name in "abcd"] + [
            Table("t", "a", audience=["b", "c"]), Role("x", "d"), Function("g", "c", body=[Give("inherit", "x", "b")]),
            Function("f", "a", body=[Call("g"), Give("read", "t", "caller")])], given("a b call f, c a call g"))
        self.assertEqual(self.steps(system, ["b", "d"], ("has", "b", "read", "t")),
                         ["d : give inherit x c option", "b : call f"])

    def test_what_a_call_within_a_call_gives_counts_for_what_follows(self):
        system = world(("g", [Give("write", "t", "d", option=True), Give("call", "h", "d")]),
                       ("h", [Give("read", "t", "b")]), ("k", [Call("g"), Give("inherit", "e", "b")]),
                       grants="a b call k")
        self.assertEqual(self.steps(system, ["b"], ("has", "b", "inherit", "e")), ["b : call k"])
        nested = System([Role(name, "a") for name in "abcd"] + [
            Table("t", "a"), Function("h", "d", mode="caller", body=[Give("write", "t", "b")]),
            Function("g", "a", body=[Give("call", "h", "c")]),
            Function("m", "a", body=[Give("write", "t", "c", option=True)]),
            Function("f", "c", mode="owner", body=[Call("m"), Call("h")])], given("c b call f, a c call m, d c call h"))
        self.assertEqual(self.steps(nested, ["b"], ("has", "b", "write", "t")), ["b : call f"])

    def test_a_call_serves_several_needs(self):
        body = [Give("act", "c", "b"), Give("call", "g", "c"), Give("write", "t", "c", option=True)]
        system = world(("g", [Give("inherit", "d", "caller")]), ("f", body), grants="a b call f, a d call g")
        self.assertEqual(self.steps(system, ["b"], ("has", "e", "write", "t")), ["b : call f", "b c : give write t e"])
        self.assertEqual(self.steps(system, ["b"], ("has", "c", "inherit", "d")), ["b : call f", "b c : call g"])

    def test_audiences(self):
        system = world(("f", [Give("read", "u", "b", option=True)]), grants="a b call f")
        self.assertEqual(self.steps(system, ["b"], ("has", "c", "read", "u")), ["b : call f", "b : give read u c"])
        self.assertEqual(can_ever(system, ["b"], ("has", "d", "read", "u"))[0], "never")

    def test_roles_that_give_by_turns(self):
        # b gives to c, c acts for the team, too, and gives back to a what b had.
        system = world(grants="a b read t option")
        self.assertEqual(self.steps(system, ["b"], ("option", "c", "read", "t")), ["b : give read t c option"])
        self.assertEqual(self.steps(system, ["b"], ("has", "c", "read", "t"))[0][:14], "b : give read ")
        self.assertEqual(self.steps(system, ["c", "b"], ("use", "read", "t")), [])


if __name__ == "__main__":
    unittest.main()
