"""Acting, Block and within [84], and blocks as changes [86]."""

import unittest

from rolereach.errors import AtLogin, Denied, InBlock, InvalidManager, InvalidServer, InvalidSession, NothingToUndo
from rolereach.errors import MissingError, NothingToRedo, RoleError, StateError, UnknownRole
from rolereach.running import do
from rolereach.servers import Acting, Block, Server, Session, within
from rolereach.things import Give, Take
from tests.plain_deeds import ROLES, shop, some_deed
from tests.values import any_values, expect
from tests.worlds import Dice, office

READ, WRITE = Give("read", "pay", "ann"), Give("write", "pay", "ann")


class Stop(Exception):
    """What a block raises in these tests."""


def stop(_):
    raise Stop()


class ActingTest(unittest.TestCase):
    def setUp(self):
        self.server = Server(office("dba ann act bob, dba bob act eve, dba eve act ann"))
        self.session = self.server.session("ann")

    def test_a_block(self):
        with Acting(self.session, "bob") as same:
            self.assertIs(same, self.session)
            self.assertEqual([self.session.path(), self.session.role], [["ann", "bob"], "bob"])
        self.assertEqual([self.session.path(), self.session.role], [["ann"], "ann"])

    def test_whatever_happens_to_the_path(self):
        with Acting(self.session, "bob"):
            self.session.act_as("eve")
            self.session.act_as("ann")
        self.assertEqual([self.session.path(), self.session.role], [["ann"], "ann"])
        self.session.act_as("bob")
        with Acting(self.session, "eve"):
            self.session.leave()
            self.session.leave()
            with self.assertRaises(AtLogin):
                self.session.leave()
        self.assertEqual([self.session.path(), self.session.role], [["ann", "bob"], "bob"])

    def test_an_exception_goes_on(self):
        with self.assertRaises(Stop):
            with Acting(self.session, "bob"):
                self.session.act_as("eve")
                raise Stop()
        self.assertEqual([self.session.path(), self.session.role], [["ann"], "ann"])

    def test_blocks_in_blocks(self):
        with Acting(self.session, "bob"):
            with Acting(self.session, "eve"):
                self.assertEqual(self.session.path(), ["ann", "bob", "eve"])
            self.assertEqual(self.session.path(), ["ann", "bob"])
        self.assertEqual(self.session.path(), ["ann"])

    def test_a_manager_may_be_used_again(self):
        manager = Acting(role="bob", session=self.session)
        for _ in range(2):
            self.assertEqual(within(manager, lambda session: session.path()), ["ann", "bob"])
            self.assertEqual(self.session.path(), ["ann"])
        with self.assertRaises(Stop):
            within(manager, stop)
        self.session.act_as("bob")
        self.session.act_as("eve")
        self.session.act_as("ann")
        self.assertEqual(within(manager, lambda session: session.path()), ["ann", "bob", "eve", "ann", "bob"])
        self.assertEqual(self.session.path(), ["ann", "bob", "eve", "ann"])

    def test_a_block_that_cannot_begin(self):
        called = []
        for role, error in [("eve", Denied), ("zed", UnknownRole), ("pay", UnknownRole), ([], UnknownRole)]:
            manager = Acting(self.session, role)
            with self.assertRaises(error):
                within(manager, called.append)
            with self.assertRaises(error):
                with manager:
                    called.append(1)
        self.assertEqual([called, self.session.path(), self.session.role], [[], ["ann"], "ann"])

    def test_a_right_that_is_lost_in_the_block(self):
        with Acting(self.session, "bob"):
            self.server.session("dba").perform(Take("act", "bob", "ann"))
            self.assertEqual(self.session.path(), ["ann", "bob"])
        self.assertEqual(self.session.path(), ["ann"])
        with self.assertRaises(Denied):
            within(Acting(self.session, "bob"), stop)

    def test_no_session(self):
        for value in any_values() + [self.server, Session]:
            if not isinstance(value, Session):
                expect(self, InvalidSession, "value", value, lambda: Acting(value, 1))


class BlockTest(unittest.TestCase):
    def setUp(self):
        self.server = Server(office())
        self.session = self.server.session("dba")

    def perform_both(self, server):
        self.session.perform(READ)
        self.session.perform(WRITE)
        return len(server.system)

    def test_a_block_is_one_change(self):
        with Block(self.server) as same:
            self.assertIs(same, self.server)
            self.assertEqual(self.perform_both(same), 2)
            self.assertEqual(self.server.changes(), 0)
        self.assertEqual([len(self.server.system), self.server.changes()], [2, 1])
        self.server.undo()
        self.assertEqual([self.server.system, self.server.changes()], [office(), 0])
        self.server.redo()
        self.assertEqual([len(self.server.system), self.server.changes()], [2, 1])

    def test_a_block_that_raises(self):
        self.session.perform(Give("act", "bob", "ann"))
        before = self.server.system
        other = self.server.session("ann")
        with self.assertRaises(Stop):
            with Block(self.server):
                self.perform_both(self.server)
                other.act_as("bob")
                raise Stop()
        self.assertEqual([self.server.system, self.server.changes()], [before, 1])
        # Paths and the log stay as they are.
        self.assertEqual([other.path(), [row[3] for row in self.server.log()]], [["ann", "bob"], ["done"] * 3])
        self.server.undo()
        self.assertEqual(self.server.system, office())

    def test_a_refused_deed_ends_a_block(self):
        with self.assertRaises(Denied):
            with Block(self.server):
                self.session.perform(READ)
                self.server.session("eve").perform(WRITE)
        self.assertEqual([self.server.system, self.server.changes()], [office(), 0])

    def test_a_block_that_changes_nothing_in_the_end(self):
        self.session.perform(WRITE)
        self.server.undo()
        with Block(self.server):
            self.session.perform(READ)
            self.session.perform(Take("read", "pay", "ann"))
        self.assertEqual([self.server.system, self.server.changes()], [office(), 0])
        with self.assertRaises(NothingToUndo):
            self.server.undo()
        self.server.redo()
        self.assertEqual(self.server.system, office("dba ann write pay"))

    def test_blocks_in_blocks(self):
        with Block(self.server):
            self.session.perform(READ)
            with self.assertRaises(Stop):
                with Block(self.server):
                    self.session.perform(WRITE)
                    with Block(self.server):
                        self.session.perform(Give("act", "bob", "ann"))
                    raise Stop()
            self.assertEqual(self.server.system, office("dba ann read pay"))
            with Block(self.server):
                self.session.perform(Give("act", "eve", "ann"))
            with self.assertRaises(InBlock):
                self.server.undo()
        self.assertEqual([self.server.changes(), len(self.server.system)], [1, 2])
        self.server.undo()
        self.assertEqual(self.server.system, office())

    def test_the_outer_block_raises(self):
        with self.assertRaises(Stop):
            with Block(self.server):
                with Block(self.server):
                    self.session.perform(READ)
                raise Stop()
        self.assertEqual([self.server.system, self.server.changes()], [office(), 0])

    def test_undo_and_redo_within_a_block(self):
        self.session.perform(READ)
        with Block(self.server):
            for action in [self.server.undo, self.server.redo]:
                with self.assertRaises(InBlock):
                    action()
            self.assertEqual(self.server.changes(), 1)
        self.server.undo()
        with Block(self.server):
            with self.assertRaises(InBlock):
                self.server.redo()
        with self.assertRaises(InBlock):
            within(Block(self.server), lambda server: server.undo())
        self.server.redo()
        self.assertEqual([self.server.system, self.server.changes()], [office("dba ann read pay"), 1])

    def test_blocks_one_after_the_other(self):
        manager = Block(server=self.server)
        for deed in [READ, WRITE, Give("act", "bob", "ann")]:
            with manager:
                self.session.perform(deed)
        with self.assertRaises(Stop):
            within(manager, stop)
        self.assertEqual(self.server.changes(), 3)
        for count in [2, 1, 0]:
            self.server.undo()
            self.assertEqual([len(self.server.system), self.server.changes()], [count, count])

    def test_a_deed_behind_a_block_is_a_change_of_its_own(self):
        within(Block(self.server), self.perform_both)
        self.session.perform(Give("act", "bob", "ann"))
        self.server.undo()
        self.assertEqual([len(self.server.system), self.server.changes()], [2, 1])

    def test_undo_right_behind_a_block(self):
        within(Block(self.server), self.perform_both)
        self.server.undo()
        self.assertEqual(self.server.system, office())
        self.server.redo()
        self.assertEqual(len(self.server.system), 2)

    def test_redo_right_behind_a_block(self):
        self.session.perform(Give("act", "bob", "ann"))
        self.server.undo()
        within(Block(self.server), self.perform_both)
        with self.assertRaises(NothingToRedo):
            self.server.redo()
        self.assertEqual(len(self.server.system), 2)

    def test_a_block_behind_a_deed_and_a_deed_in_another_block(self):
        self.session.perform(READ)
        within(Block(self.server), lambda _: self.session.perform(WRITE))
        within(Block(self.server), lambda _: self.session.perform(Give("act", "bob", "ann")))
        self.assertEqual(self.server.changes(), 3)

    def test_a_block_of_another_server(self):
        other = Server(office())
        with Block(other):
            self.session.perform(READ)
            self.server.undo()
        self.assertEqual([self.server.changes(), other.changes()], [0, 0])

    def test_no_server(self):
        for value in any_values() + [self.session, Server]:
            if not isinstance(value, Server):
                expect(self, InvalidServer, "value", value, lambda: Block(value))


class WithinTest(unittest.TestCase):
    def test_results(self):
        server = Server(office())
        session = server.session("dba")
        rows = []
        self.assertIs(within(Block(server), lambda same: rows), rows)
        self.assertIs(within(manager=Acting(session, "ann"), action=lambda same: same), session)
        self.assertEqual(within(Acting(session, "ann"), Session.path), ["dba", "ann"])

    def test_no_manager(self):
        server = Server(office())
        for value in any_values() + [server, server.session("ann"), Block, Acting]:
            expect(self, InvalidManager, "value", value, lambda: within(value, stop))


class HistoryTest(unittest.TestCase):
    """Random histories, compared with a plain list of the systems."""

    def test_random_histories(self):
        for seed in range(120):
            dice = Dice(seed)
            self.server = Server(shop(dice, 4, 0))
            self.past, self.future = [], []
            for _ in range(12):
                choice = dice.below(6)
                before = self.server.system
                if choice < 2:
                    self.try_deed(dice)
                    self.note(before)
                elif choice == 2:
                    self.try_block(dice, 2)
                    self.note(before)
                elif choice < 5:
                    self.compare(self.server.undo, self.past, self.future, NothingToUndo)
                else:
                    self.compare(self.server.redo, self.future, self.past, NothingToRedo)
                self.assertEqual(self.server.changes(), len(self.past))

    def note(self, before):
        if self.server.system != before:
            self.past.append(before)
            self.future = []

    def compare(self, action, source, target, error):
        if not source:
            with self.assertRaises(error):
                action()
            return
        target.append(self.server.system)
        expected = source.pop()
        action()
        self.assertEqual(self.server.system, expected)

    def try_deed(self, dice):
        role, deed = dice.pick(ROLES), some_deed(dice, self.server.system)
        try:
            expected = do(self.server.system, role, deed)
            self.server.session(role).perform(deed)
            self.assertEqual(self.server.system, expected)
        except (RoleError, MissingError, StateError):
            pass

    def try_block(self, dice, depth):
        before, fails = self.server.system, dice.below(3) == 0
        try:
            with Block(self.server):
                for _ in range(2):
                    self.try_deed(dice)
                    if depth > 0:
                        self.try_block(dice, depth - 1)
                inside = self.server.system
                if fails:
                    raise Stop()
        except Stop:
            inside = before
        self.assertEqual(self.server.system, inside)


if __name__ == "__main__":
    unittest.main()
