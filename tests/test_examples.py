"""The examples of the document, stage by stage."""

import unittest

from rolereach.access import acting, barrier, has, holds, inherited, reason
from rolereach.consoles import Console
from rolereach.errors import Denied, InvalidLine, Unrooted
from rolereach.extents import meets, reach, rounds
from rolereach.grants import Grant
from rolereach.names import is_flag, is_name, is_names, is_taker, kind_of, rights_of, split_words
from rolereach.plans import can_ever, first_round
from rolereach.running import do
from rolereach.servers import Server
from rolereach.standing import is_cut_off, support, without
from rolereach.systems import System
from rolereach.teams import helpers, needed, team_papers
from rolereach.texts import read_system, system_text
from rolereach.things import Call, Function, Give, Make, Role, Table, Take


class StageOneTest(unittest.TestCase):
    def test_predicates(self):
        self.assertEqual(
            [is_name("ann"), is_name("public"), is_taker("public"), is_flag(0), is_names(["ann", "ann"], 3)],
            [True, False, True, False, False])

    def test_rights_and_words(self):
        self.assertEqual(
            [rights_of("role"), kind_of("call"), split_words("a b+c", separator="+"), split_words("a  b")],
            [['inherit', 'act'], 'function', ['a b', 'c'], None])


class StageTwoTest(unittest.TestCase):
    def test_function_and_audience(self):
        grant = Function("grant", "dba", mode="owner", body=[Give("read", "pay", "caller"), Call("other")])
        self.assertEqual(
            [grant.mode, len(grant), [str(deed) for deed in grant.body()],
             Table("pay", "dba", audience=["eve", "ann"]).audience],
            ['owner', 2, ['give read pay caller', 'call other'], ['ann', 'eve']])

    def test_admits_rights_and_option(self):
        self.assertEqual(
            [Table("pay", "dba", audience=["ann"]).admits("public"), Role("ops", "ops").rights(),
             Give("read", "pay", "ann").option],
            [False, ['inherit', 'act'], False])

    def test_text(self):
        self.assertEqual(
            str(Make(Function("f", "ann", audience=[], body=[Call("g"), Call("h")]))),
            'make function f ann owner audience : call g ; call h')


class StageThreeTest(unittest.TestCase):
    def test_grants(self):
        first, second = Grant("ann", "bob", "read", "pay"), Grant("ann", "bob", "read", "pay", option=True)
        self.assertEqual(
            [first < second, second.covers(first), first.covers(second), first.with_option(True) == second,
             second.key()],
            [True, True, False, True, ('ann', 'bob', 'read', 'pay')])


def pay_things():
    return [Role("dba", "dba"), Role("ann", "dba"), Role("bob", "dba"), Table("pay", "dba")]


def pay_system():
    return System(pay_things(), [Grant("dba", "ann", "read", "pay", option=True), Grant("ann", "bob", "read", "pay")])


class StageFourTest(unittest.TestCase):
    def test_a_system(self):
        system = pay_system()
        self.assertEqual(
            [len(system), system.names("role"), Grant("dba", "ann", "read", "pay") in system,
             system.option_of("ann", "bob", "read", "pay")],
            [2, ['dba', 'ann', 'bob'], True, False])

    def test_a_grant_without_a_root(self):
        with self.assertRaises(Unrooted):
            System(pay_things(), [Grant("ann", "bob", "read", "pay")])


class StageFiveTest(unittest.TestCase):
    def test_what_falls(self):
        system = pay_system()
        gone, fallen = without(system, [Grant("dba", "ann", "read", "pay")])
        self.assertEqual(
            [len(gone), [grant.key() for grant in fallen],
             len(without(system, [Grant("dba", "ann", "read", "pay")], only_option=True)[0])],
            [0, [('ann', 'bob', 'read', 'pay')], 1])
        self.assertEqual(
            [len(support(system, Grant("ann", "bob", "read", "pay"))),
             is_cut_off(system, fallen, fallen[0], ["ann"])],
            [2, True])


class StageSixTest(unittest.TestCase):
    def setUp(self):
        things = [Role("dba", "dba"), Role("ops", "dba"), Role("ann", "dba"), Table("pay", "ops")]
        self.system = System(things, [Grant("dba", "ann", "inherit", "ops")])

    def test_who_has_which_right(self):
        system = self.system
        self.assertEqual(
            [inherited(system, "dba"), has(system, "ann", "read", "pay"), holds(system, "ann", "read", "pay"),
             has(system, "dba", "write", "pay")],
            [['dba', 'ops', 'ann'], True, False, True])

    def test_reason_barrier_and_acting(self):
        system = self.system
        self.assertEqual(
            [[link[:3] for link in reason(system, "ann", "read", "pay")], barrier(system, "ops", "act", "ann"),
             acting(system, ["ann"])],
            [[('ann', 'inherit', 'ops'), ('ops', 'read', 'pay')], ['ops'], ['ann']])


class StageSevenTest(unittest.TestCase):
    def test_a_call_and_a_gift(self):
        things = [Role("dba", "dba"), Role("ann", "dba"), Table("pay", "dba"),
                  Function("open", "dba", body=[Give("read", "pay", "caller")])]
        system = System(things, [Grant("dba", "public", "call", "open")])
        self.assertEqual([grant.key() for grant in do(system, "ann", Call("open")).grants()],
                         [('dba', 'public', 'call', 'open'), ('dba', 'ann', 'read', 'pay')])
        with self.assertRaises(Denied):
            do(system, "ann", Give("read", "pay", "ann"))


class StageEightTest(unittest.TestCase):
    def test_a_session(self):
        server = Server(System([Role("dba", "dba"), Role("ann", "dba"), Table("pay", "dba")]))
        session = server.session("dba")
        self.assertEqual(
            [session.act_as("ann"), session.path(), session.leave(), session.perform(Give("read", "pay", "ann")),
             session.perform(Give("read", "pay", "ann"))],
            [None, ['dba', 'ann'], None, True, False])
        self.assertEqual([server.log()[0], server.undo(), len(server.system), server.changes()],
                         [('dba', 'dba', 'give read pay ann', 'done'), None, 0, 0])


class StageNineTest(unittest.TestCase):
    def test_texts_of_deeds(self):
        self.assertEqual(
            [str(Take("read", "pay", "ann", cascade=True)),
             str(Take("read", "pay", "ann", giver="dba", only_option=True))],
            ['take read pay ann cascade', 'take read pay ann by dba option'])

    def test_texts_of_systems(self):
        with self.assertRaises(InvalidLine):
            read_system("role dba dba\nfunction f dba owner audience dba : "
                        "give act dba caller ; give inherit dba public option")
        self.assertEqual(
            system_text(read_system("role dba dba\nrole ann dba\ngrant dba public act ann\ngrant dba ann act dba")),
            'role dba dba\nrole ann dba\ngrant dba public act ann\ngrant dba ann act dba')


class StageTenTest(unittest.TestCase):
    def test_rounds_and_goals(self):
        things = [Role("dba", "dba"), Role("ann", "dba"), Role("bob", "dba"), Table("pay", "dba", audience=["ann"])]
        things = things + [Function("open", "dba", body=[Give("read", "pay", "caller")])]
        system = System(things, [Grant("dba", "public", "call", "open"), Grant("dba", "bob", "inherit", "ann")])
        self.assertEqual(
            ([len(extent) for extent in rounds(system, ["bob"])], [len(extent) for extent in rounds(system, ["ann"])]),
            ([2], [2, 3]))
        self.assertEqual(
            [meets(system, reach(system, ["ann"]), ("has", "bob", "read", "pay")),
             meets(system, reach(system, ["bob"]), ("use", "read", "pay"))],
            [True, False])


class StageElevenTest(unittest.TestCase):
    def test_plans(self):
        things = [Role("dba", "dba"), Role("ops", "dba"), Role("ann", "dba"), Table("pay", "dba")]
        things = things + [Function("lend", "dba", body=[Give("act", "ops", "caller")]),
                           Function("open", "dba", body=[Give("read", "pay", "caller")])]
        system = System(things, [Grant("dba", "ann", "call", "lend"), Grant("dba", "ops", "call", "open")])
        word, plan = can_ever(system, ["ann"], ("use", "read", "pay"))
        self.assertEqual(
            [word, [[step.path(), str(step.deed)] for step in plan],
             first_round(system, ["ann"], ("use", "read", "pay"))],
            ['plan', [[['ann'], 'call lend'], [['ann', 'ops'], 'call open']], 2])
        self.assertEqual(can_ever(system, ["ann"], ("has", "ann", "read", "pay"))[0], 'never')


class StageTwelveTest(unittest.TestCase):
    def test_teams_and_cuts(self):
        things = [Role("dba", "dba"), Role("ann", "dba"), Role("bob", "dba"),
                  Table("key", "dba", audience=["ann", "bob"])]
        things = things + [Function("open", "dba", audience=["bob"], body=[Give("write", "key", "ann")])]
        system = System(things, [Grant("dba", "bob", "call", "open"), Grant("dba", "ann", "read", "key")])
        goal = ("use", "write", "key")
        self.assertEqual(
            [[team for team, plan in team_papers(system, ["ann", "bob"], goal)[0]], helpers(system, ["ann"], goal)],
            [[['ann', 'bob']], ['dba', 'bob']])
        self.assertEqual(
            [[grant.key() for grant in needed(system, ["ann", "bob"], goal)], needed(system, ["ann"], goal)],
            [[('dba', 'bob', 'call', 'open')], None])


class StageThirteenTest(unittest.TestCase):
    def test_a_console(self):
        console = Console(Server(System([Role("dba", "dba"), Role("ann", "dba"), Table("pay", "dba")])))
        self.assertEqual(
            [console("as dba : give read pay ann option"), console("why ann read pay"),
             console("ever ann : has ann act dba"), console("grants pay")],
            ['done', 'ann has read on pay by dba', 'never', 'dba ann read option'])
        self.assertEqual(
            [console("ever - : has ann read pay"), console("undo"), console("round ann : use read pay"),
             console.history()[2]],
            ['now', 'done', 'never', 'ever ann : has ann act dba'])


if __name__ == "__main__":
    unittest.main()
