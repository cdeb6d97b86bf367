"""Servers and sessions, the log, undo and redo [81] to [83], [85], [86]."""

import unittest

from rolereach.errors import AtLogin, Denied, InvalidDeed, InvalidSystem, MissingError, NothingToRedo, NothingToUndo
from rolereach.errors import RoleError, StateError, UnknownRole
from rolereach.running import do
from rolereach.servers import Block, Server
from rolereach.systems import System
from rolereach.texts import system_text
from rolereach.things import Call, Deed, Give, Make, Preset, Role, Table, Take, Use
from tests.plain_deeds import ROLES, shop, some_deed
from tests.test_running import denied
from tests.values import any_values, expect
from tests.worlds import Dice, given, office

READ, WRITE = Give("read", "pay", "ann"), Give("write", "pay", "ann")


class SessionTest(unittest.TestCase):
    def test_a_new_session(self):
        server = Server(office())
        session, other = server.session("ann"), server.session(login="ann")
        self.assertEqual([session.login, session.role, session.path()], ["ann", "ann", ["ann"]])
        self.assertNotEqual(session, other)
        self.assertEqual(session, session)

    def test_no_system_and_no_role(self):
        for value in any_values():
            if not isinstance(value, System):
                expect(self, InvalidSystem, "value", value, lambda: Server(value))
            if value not in ROLES:
                expect(self, UnknownRole, "name", value, lambda: Server(office()).session(value))
                session = Server(office()).session("dba")
                expect(self, UnknownRole, "name", value, lambda: session.act_as(value))
                self.assertEqual(session.path(), ["dba"])
        self.assertEqual(len(Server(system=System([])).system), 0)
        for name in ["pay", "run", "public"]:
            expect(self, UnknownRole, "name", name, lambda: Server(office()).session(name))

    def test_paths(self):
        session = Server(office("dba ann act bob, dba bob inherit eve, dba eve act ann")).session("ann")
        for role in ["bob", "ann"]:
            self.assertIsNone(session.act_as(role))
        self.assertIsNone(session.act_as(role="bob"))
        self.assertEqual([session.path(), session.login, session.role], [["ann", "bob", "ann", "bob"], "ann", "bob"])
        self.assertIsNone(session.leave())
        self.assertEqual([session.path(), session.login, session.role], [["ann", "bob", "ann"], "ann", "ann"])
        session.leave()
        session.leave()
        self.assertEqual([session.path(), session.role], [["ann"], "ann"])
        for _ in range(2):
            with self.assertRaises(AtLogin):
                session.leave()
        self.assertEqual([session.path(), session.role], [["ann"], "ann"])

    def test_it_is_the_present_role_that_must_have_act(self):
        session = Server(office("dba ann act bob")).session("ann")
        denied(self, lambda: session.act_as("eve"), "ann", "act", "eve")
        denied(self, lambda: session.act_as("ann"), "ann", "act", "ann")
        session.act_as("bob")
        denied(self, lambda: session.act_as("bob"), "bob", "act", "bob")
        self.assertEqual(session.path(), ["ann", "bob"])
        owner = Server(office()).session("dba")
        for role in ["dba", "dba", "ann"]:
            owner.act_as(role)
        self.assertEqual(owner.path(), ["dba", "dba", "dba", "ann"])

    def test_the_path_is_new_each_time(self):
        session = Server(office()).session("ann")
        session.path().append("dba")
        self.assertEqual([session.path(), session.role], [["ann"], "ann"])
        self.assertIsNot(session.path(), session.path())

    def test_a_path_is_kept_when_it_loses_its_right(self):
        server = Server(office("dba ann act bob, dba bob read pay option"))
        session, dba = server.session("ann"), server.session("dba")
        session.act_as("bob")
        dba.perform(Take("act", "bob", "ann"))
        self.assertEqual([session.path(), session.role], [["ann", "bob"], "bob"])
        self.assertTrue(session.perform(Give("read", "pay", "eve")))
        session.leave()
        denied(self, lambda: session.act_as("bob"), "ann", "act", "bob")


class PerformTest(unittest.TestCase):
    def test_what_perform_returns(self):
        server = Server(office())
        session = server.session("dba")
        deeds = [READ, READ, Use("read", "pay"), Call("run"), Give("read", "pay", "dba"),
                 Preset("table", "read", "dba")]
        self.assertEqual([session.perform(deed) for deed in deeds], [True, False, False, False, False, False])
        self.assertIs(session.perform(deed=Preset("table", "read", "ann")), True)
        self.assertIs(session.perform(Make(Table("new", "dba"))), True)
        self.assertEqual(server.system, do(do(do(office(), "dba", READ), "dba", Preset("table", "read", "ann")),
                                           "dba", Make(Table("new", "dba"))))

    def test_the_last_role_of_the_path_does_it(self):
        server = Server(office())
        session = server.session("dba")
        session.act_as("bob")
        denied(self, lambda: session.perform(READ), "bob", "read", "pay")
        self.assertTrue(session.perform(Give("read", "key", "ann")))
        session.leave()
        denied(self, lambda: session.perform(Give("read", "key", "ann")), "dba", "read", "key")

    def test_sessions_share_the_system(self):
        server = Server(office())
        server.session("dba").perform(Give("read", "pay", "ann", option=True))
        self.assertTrue(server.session("ann").perform(Give("read", "pay", "bob")))
        self.assertEqual(server.system.grants(), given("ann bob read pay, dba ann read pay option"))

    def test_no_deed(self):
        server = Server(office())
        session = server.session("dba")
        for value in any_values() + [Deed()]:
            if not isinstance(value, Deed) or type(value) is Deed:
                expect(self, InvalidDeed, "value", value, lambda: session.perform(value))
        self.assertEqual(server.log(), [])

    def test_what_is_refused_changes_nothing(self):
        for seed in range(150):
            dice = Dice(seed)
            server = Server(shop(dice))
            for _ in range(6):
                role, deed, before = dice.pick(ROLES), some_deed(dice, server.system), server.system
                count = server.changes()
                try:
                    after = do(before, role, deed)
                except (RoleError, MissingError, StateError) as error:
                    with self.assertRaises(type(error)):
                        server.session(role).perform(deed)
                    self.assertIs(server.system, before)
                    self.assertEqual([server.changes(), server.log()[-1]],
                                     [count, (role, role, str(deed), type(error).__name__)])
                else:
                    changed = server.session(role).perform(deed)
                    self.assertEqual([changed, server.system], [after != before, after])
                    self.assertEqual([server.changes(), server.log()[-1]],
                                     [count + changed, (role, role, str(deed), "done" if changed else "same")])


class LogTest(unittest.TestCase):
    def test_the_log(self):
        server = Server(office("dba ann act bob"))
        session = server.session("ann")
        session.act_as("bob")
        session.perform(Give("read", "key", "eve", option=True))
        session.perform(Use("write", "key"))
        for deed in [READ, Call("zed"), Take("read", "key", "ann"), Give("read", "key", "dba")]:
            with self.assertRaises((StateError, MissingError)):
                session.perform(deed)
        self.assertEqual(server.log(), [
            ("ann", "bob", "give read key eve option", "done"), ("ann", "bob", "use write key", "same"),
            ("ann", "bob", "give read pay ann", "Denied"), ("ann", "bob", "call zed", "UnknownThing"),
            ("ann", "bob", "take read key ann", "NoGrant"), ("ann", "bob", "give read key dba", "NotAdmitted")])

    def test_the_log_is_new_each_time(self):
        server = Server(office())
        server.session("dba").perform(READ)
        server.log().clear()
        self.assertEqual(server.log(), [("dba", "dba", "give read pay ann", "done")])
        self.assertIsNot(server.log(), server.log())

    def test_only_performs_are_logged(self):
        server = Server(office("dba ann act bob"))
        session = server.session("ann")
        session.act_as("bob")
        session.leave()
        with self.assertRaises(Denied):
            session.act_as("eve")
        server.session("dba").perform(READ)
        server.undo()
        server.redo()
        self.assertEqual(len(server.log()), 1)


class UndoTest(unittest.TestCase):
    def setUp(self):
        self.server = Server(office())
        self.session = self.server.session("dba")

    def test_nothing_to_undo_or_redo(self):
        for _ in range(2):
            with self.assertRaises(NothingToUndo):
                self.server.undo()
            with self.assertRaises(NothingToRedo):
                self.server.redo()
        self.session.perform(Use("read", "pay"))
        with self.assertRaises(NothingToUndo):
            self.server.undo()
        self.assertEqual(self.server.changes(), 0)

    def test_there_and_back(self):
        systems = [self.server.system]
        for deed in [READ, WRITE, Take("read", "pay", "ann"), Make(Table("new", "dba")),
                     Preset("table", "read", "ann")]:
            self.session.perform(deed)
            systems.append(self.server.system)
        for at in [4, 3, 2, 1, 0]:
            self.assertIsNone(self.server.undo())
            self.assertEqual([self.server.system, self.server.changes()], [systems[at], at])
        for at in [1, 2, 3, 4, 5]:
            self.assertIsNone(self.server.redo())
            self.assertEqual([self.server.system, self.server.changes()], [systems[at], at])
        with self.assertRaises(NothingToRedo):
            self.server.redo()
        self.assertEqual(self.server.system, systems[5])

    def test_a_redo_after_a_change(self):
        self.session.perform(READ)
        self.server.undo()
        self.session.perform(WRITE)
        with self.assertRaises(NothingToRedo):
            self.server.redo()
        self.server.undo()
        self.assertEqual(self.server.system, office())
        self.server.redo()
        self.assertEqual(self.server.system, office("dba ann write pay"))
        with self.assertRaises(NothingToRedo):
            self.server.redo()

    def test_the_same_change_again_is_a_change(self):
        self.session.perform(READ)
        self.server.undo()
        self.session.perform(READ)
        with self.assertRaises(NothingToRedo):
            self.server.redo()

    def test_what_is_no_change_keeps_what_can_be_redone(self):
        self.session.perform(READ)
        self.server.undo()
        self.session.perform(Use("read", "pay"))
        with self.assertRaises(Denied):
            self.server.session("ann").perform(READ)
        with Block(self.server):
            self.session.perform(WRITE)
            self.session.perform(Take("write", "pay", "ann"))
        self.server.redo()
        self.assertEqual([self.server.system, self.server.changes()], [office("dba ann read pay"), 1])

    def test_paths_and_the_log_stay(self):
        self.session.act_as("ann")
        self.session.leave()
        self.session.perform(Give("act", "bob", "ann"))
        other = self.server.session("ann")
        other.act_as("bob")
        self.server.undo()
        self.assertEqual([other.path(), len(self.server.log())], [["ann", "bob"], 1])

    def test_many_changes(self):
        for _ in range(150):
            self.session.perform(READ)
            self.session.perform(Take("read", "pay", "ann"))
        self.assertEqual(self.server.changes(), 300)
        for _ in range(300):
            self.server.undo()
        self.assertEqual([self.server.system, self.server.changes()], [office(), 0])


class RoleOrderTest(unittest.TestCase):
    def test_the_system_of_a_server_is_never_changed_itself(self):
        system = System([Role("b", "b"), Role("a", "b")])
        text = system_text(system)
        server = Server(system)
        server.session("b").perform(Give("act", "b", "a", option=True))
        self.assertEqual([system_text(system), len(server.system)], [text, 1])


if __name__ == "__main__":
    unittest.main()
