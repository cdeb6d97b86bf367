"""A console: its commands, their answers and their errors [131], [132]."""

import unittest

from rolereach.consoles import Console
from rolereach.errors import CallFailed, Denied, InBlock, InvalidCommand, InvalidGoal, InvalidLines, InvalidRight
from rolereach.errors import InvalidServer, InvalidTeam, Mismatch, NothingToRedo, NothingToUndo, NotOwner, UnknownRole
from rolereach.errors import UnknownThing
from rolereach.plans import can_ever, first_round
from rolereach.servers import Block, Server, within
from rolereach.systems import System
from rolereach.things import Call, Function, Give, Role, Table
from tests.plain_deeds import ROLES, shop
from tests.plain_extents import all_goals
from tests.values import any_values, expect
from tests.worlds import Dice, given, office

COMMANDS = ["as", "has", "why", "ever", "round", "undo", "redo", "grants"]


def console(text=""):
    return Console(Server(office(text)))


def server_and_console(text=""):
    server = Server(office(text))
    return server, Console(server)


def expect_words(case, error, field, value, action):
    """The action raises exactly this error, with a value that equals this one in its field."""
    with case.assertRaises(error) as caught:
        action()
    case.assertEqual([type(caught.exception), getattr(caught.exception, field)], [error, value])


class AsTest(unittest.TestCase):
    def test_deeds(self):
        server, line = server_and_console("dba ann act bob")
        self.assertEqual([line("as dba : give read pay ann"), line("as dba : give read pay ann"),
                          line("as ann bob : give read key eve option"), line(line="as bob : use write key"),
                          line("as eve : preset table read ann"), line("as dba : take read pay ann"),
                          line("as ann : make table new ann audience bob"), line("as dba : call run")],
                         ["done", "same", "done", "same", "done", "done", "done", "same"])
        self.assertEqual(server.log()[2], ("ann", "bob", "give read key eve option", "done"))
        self.assertEqual([len(server.log()), server.changes()], [8, 5])

    def test_a_colon_in_the_text_of_a_deed(self):
        server, line = server_and_console()
        self.assertEqual(line("as dba ann : make function new ann caller : give act ann caller ; call run"), "done")
        self.assertEqual(server.system.things()[-1],
                         Function("new", "ann", mode="caller", body=[Give("act", "ann", "caller"), Call("run")]))

    def test_a_path_may_name_a_role_twice(self):
        server, line = server_and_console()
        self.assertEqual(line("as dba dba : give act ann bob"), "done")
        self.assertEqual(server.log()[0][:2], ("dba", "dba"))

    def test_errors_before_the_deed(self):
        server, line = server_and_console("dba ann act bob")
        expect_words(self, UnknownRole, "name", "zed", lambda: line("as zed yan : give read pay ann"))
        expect_words(self, UnknownRole, "name", "pay", lambda: line("as ann bob pay : give read pay ann"))
        with self.assertRaises(Denied) as caught:
            line("as ann bob eve zed : give read pay ann")
        self.assertEqual([caught.exception.role, caught.exception.right, caught.exception.thing], ["bob", "act", "eve"])
        self.assertEqual([server.log(), line.history()], [[], []])

    def test_errors_of_the_deed(self):
        server, line = server_and_console()
        for text, error in [("give read pay bob", Denied), ("give read zed bob", UnknownThing), ("call zed",
                                                                                                 UnknownThing),
                            ("make table new dba", NotOwner), ("use call pay", Mismatch)]:
            with self.assertRaises(error):
                line("as ann : " + text)
            self.assertEqual(server.log()[-1], ("ann", "ann", text, error.__name__))
        self.assertEqual([len(server.log()), server.system, line.history()], [5, office(), []])

    def test_a_call_that_fails(self):
        things = office().things() + [Function("bad", "ann", body=[Give("read", "pay", "ann")])]
        line = Console(Server(System(things)))
        with self.assertRaises(CallFailed):
            line("as ann : call bad")


class HasTest(unittest.TestCase):
    def test_has(self):
        line = console("dba ann inherit bob, dba bob read pay")
        self.assertEqual([line("has ann read pay"), line("has eve read pay"), line("has bob write key")], ["yes",
                                                                                                           "no", "yes"])

    def test_why(self):
        line = console("dba ann inherit bob, dba bob inherit eve, dba public read pay, dba eve call run")
        self.assertEqual(line("why ann read pay"), "ann has read on pay by dba")
        self.assertEqual(line("why dba read pay"), "dba owns pay")
        self.assertEqual(line("why ann call run"),
                         "ann has inherit on bob by dba, bob has inherit on eve by dba, eve has call on run by dba")
        self.assertEqual(line("why ann write key"), "ann has inherit on bob by dba, bob owns key")
        self.assertEqual([line("why eve write key"), line("why dba act dba")], ["never", "dba owns dba"])

    def test_errors(self):
        for word in ["has", "why"]:
            line = console()
            expect_words(self, UnknownRole, "name", "pay", lambda: line(f"{word} pay reads zed"))
            expect_words(self, InvalidRight, "value", "reads", lambda: line(f"{word} ann reads zed"))
            expect_words(self, UnknownThing, "name", ":", lambda: line(f"{word} ann read :"))
            expect_words(self, Mismatch, "value", "call", lambda: line(f"{word} ann call pay"))
            expect_words(self, UnknownRole, "name", "-", lambda: line(f"{word} - : Has"))


class EverTest(unittest.TestCase):
    def test_plans(self):
        things = [Role("dba", "dba"), Role("ops", "dba"), Role("ann", "dba"), Table("pay", "dba"),
                  Function("lend", "dba", body=[Give("act", "ops", "caller")]),
                  Function("look", "dba", body=[Give("read", "pay", "caller")])]
        line = Console(Server(System(things, given("dba ann call lend, dba ops call look"))))
        self.assertEqual([line("ever ann : use read pay"), line("round ann : use read pay")],
                         ["ann : call lend / ann ops : call look", "2"])
        self.assertEqual([line("ever ann ops : act ops"), line("round ann ops : act ops")], ["now", "0"])
        self.assertEqual([line("ever - : act ops"), line("round - : act ops")], ["never", "never"])
        self.assertEqual(line("ever dba : option ann write pay"), "dba : give write pay ann option")
        self.assertEqual(line("ever ann : has ann read pay"), "never")

    def test_the_answers_are_those_of_plans(self):
        for seed in range(40):
            dice = Dice(seed)
            system = shop(dice, 6, 0)
            line, team = Console(Server(system)), [role for role in ROLES if dice.below(3) == 0]
            for goal in all_goals(system)[seed % 9::9]:
                task = " ".join(team or ["-"]) + " : " + " ".join(goal)
                word, plan = can_ever(system, team, goal)
                expected = "never"
                if word == "plan":
                    expected = " / ".join([" ".join(step.path()) + " : " + str(step.deed) for step in plan]) or "now"
                number = first_round(system, team, goal)
                self.assertEqual(line("ever " + task), expected)
                self.assertEqual(line("round " + task), "never" if number is None else str(number))

    def test_errors(self):
        for word in ["ever", "round"]:
            line = console()
            for task, error, value in [
                    ("zed : act zed", InvalidTeam, ["zed"]), ("ann ann : act zed", InvalidTeam, ["ann", "ann"]),
                    ("pay : act ann", InvalidTeam, ["pay"]), ("ann : act zed", InvalidGoal, ("act", "zed")),
                    ("- : has ann call pay", InvalidGoal, ("has", "ann", "call", "pay")),
                    ("- : use : -", InvalidGoal, ("use", ":", "-")), ("ann : option x y z", InvalidGoal, ("option",
                                                                                                          "x", "y",
                                                                                                          "z")),
                    ("a b c d e f g h i : act ann", InvalidTeam, list("abcdefghi"))]:
                with self.assertRaises(error) as caught:
                    line(f"{word} {task}")
                self.assertEqual([type(caught.exception.value), caught.exception.value], [type(value), value])
            self.assertEqual(line.history(), [])


class UndoTest(unittest.TestCase):
    def test_undo_and_redo(self):
        server, line = server_and_console()
        line("as dba : give read pay ann")
        self.assertEqual([line("undo"), server.system, line("redo"), server.system],
                         ["done", office(), "done", office("dba ann read pay")])
        with self.assertRaises(NothingToRedo):
            line("redo")
        line("undo")
        with self.assertRaises(NothingToUndo):
            line("undo")
        self.assertEqual(line.history(), ["as dba : give read pay ann", "undo", "redo", "undo"])

    def test_within_a_block(self):
        server, line = server_and_console()
        line("as dba : give read pay ann")
        for word in ["undo", "redo"]:
            with self.assertRaises(InBlock):
                within(Block(server), lambda _: line(word))


class GrantsTest(unittest.TestCase):
    def test_grants(self):
        line = console("dba ann write pay, dba ann read pay option, ann public read pay, dba bob act ann")
        self.assertEqual(line("grants pay"), "ann public read, dba ann read option, dba ann write")
        self.assertEqual([line("grants ann"), line("grants key")], ["dba bob act", "none"])

    def test_no_thing(self):
        for name in ["zed", "public", "Pay", ":", "-"]:
            expect_words(self, UnknownThing, "name", name, lambda: console()("grants " + name))


NO_COMMANDS = [
    "", " ", "\n", "as", "as dba", "as dba :", "as dba : ", "as : give read pay ann", "as dba: give read pay ann",
    "as dba :give read pay ann", "as dba give read pay ann", "as dba : give read pay", "as dba : give  read pay ann",
    "as  dba : give read pay ann", "as dba  : give read pay ann", " as dba : give read pay ann",
    "as dba : give read pay ann ",
    "as dba : give read pay ann\n", "as dba\n: give read pay ann", "As dba : give read pay ann",
    "as Dba : give read pay ann",
    "as - : give read pay ann", "as public : give read pay ann", "as caller : use read pay", "as dba - : use read pay",
    "as dba : : give read pay ann", "as dba : ann : give read pay ann", "as dba : Give read pay ann", "as dba : undo",
    "as dba : give read pay public option", "as dba ; give read pay ann", "as dba : make role new dba",
    "has", "has ann", "has ann read", "has ann read pay pay", "has  ann read pay", "has ann read pay ",
    "HAS ann read pay",
    "has ann read\npay", "why ann read", "why ann read pay now", "why", "ever", "ever ann", "ever ann :",
    "ever : act ann",
    "ever ann act ann", "ever ann : act", "ever ann : act ann ann", "ever ann : has ann read", "ever ann : use read",
    "ever ann : option ann read pay pay", "ever ann : can ann", "ever ann : Act ann", "ever - - : act ann",
    "ever - ann : act ann", "ever ann - : act ann", "ever ann : : act ann", "ever ann: act ann", "ever Ann : act ann",
    "ever public : act ann", "ever ann : use read pay ", "ever ann  : act ann", "round", "round ann", "round ann : act",
    "round - ann : act ann", "round ann : never", "undo undo", "undo ", " undo", "Undo", "undo\n", "redo redo",
    "redo 1",
    "grants", "grants pay pay", "grants  pay", "grants pay ", "help", "commands", "history", "quit", ":", "-", "ann",
    "give read pay ann", "as dba : give read pay ann / as dba : give write pay ann", "has\tann read pay",
]


class CommandTest(unittest.TestCase):
    def test_no_command(self):
        server, line = server_and_console("dba ann act bob")
        for value in NO_COMMANDS + any_values() + [["undo"], ("as dba", ":", "use read pay")]:
            expect(self, InvalidCommand, "value", value, lambda: line(value))
        self.assertEqual([line.history(), server.log(), server.system], [[], [], office("dba ann act bob")])

    def test_no_server(self):
        for value in any_values() + [console()]:
            if not isinstance(value, Server):
                expect(self, InvalidServer, "value", value, lambda: Console(value))
        self.assertEqual(Console(server=Server(office()))("has ann read pay"), "no")

    def test_commands(self):
        line = console()
        self.assertEqual(line.commands(), COMMANDS)
        line.commands().clear()
        self.assertEqual(line.commands(), COMMANDS)

    def test_history(self):
        line = console()
        for text in ["has ann read pay", "nothing", "has zed read pay", "undo", "grants pay", "has ann read pay"]:
            try:
                line(text)
            except (InvalidCommand, UnknownRole, NothingToUndo):
                pass
        expected = ["has ann read pay", "grants pay", "has ann read pay"]
        self.assertEqual(line.history(), expected)
        line.history().clear()
        self.assertEqual(line.history(), expected)
        other = Console(Server(office()))
        self.assertEqual(other.history(), [])

    def test_consoles_share_a_server_and_not_a_history(self):
        server = Server(office())
        one, other = Console(server), Console(server)
        one("as dba : give read pay ann")
        self.assertEqual([other("has ann read pay"), one.history(), other.history()],
                         ["yes", ["as dba : give read pay ann"], ["has ann read pay"]])
        self.assertFalse(one == other)


class RunAllTest(unittest.TestCase):
    def test_a_row_of_lines(self):
        server, line = server_and_console()
        lines = ["as dba : give read pay ann option", "as ann : give read pay bob", "as ann : give read pay bob",
                 "has bob read pay"]
        self.assertEqual(line.run_all(lines), ["done", "done", "same", "yes"])
        self.assertEqual([line.history(), server.changes(), len(server.system)], [lines, 1, 2])
        self.assertEqual([line("undo"), server.system, line("redo"), len(server.system)], ["done", office(), "done", 2])
        self.assertEqual([line.run_all(lines=()), line.run_all([])], [[], []])

    def test_an_exception_ends_the_row(self):
        server, line = server_and_console()
        for bad, error in [("has zed read pay", UnknownRole), ("nonsense", InvalidCommand), (None, InvalidCommand),
                           ("undo", InBlock), ("redo", InBlock), ("as ann : give write pay bob", Denied)]:
            server, line = server_and_console()
            line("as dba : give act bob ann")
            rows = ["as dba : give read pay ann", "has ann read pay", bad, "as dba : give write pay ann"]
            with self.assertRaises(error):
                line.run_all(rows)
            self.assertEqual([line.history(), server.system, server.changes()],
                             [["as dba : give act bob ann"] + rows[:2], office("dba ann act bob"), 1])
            self.assertEqual([row[3] for row in server.log()][:2], ["done", "done"])
            line("undo")
            self.assertEqual(server.system, office())

    def test_each_line_is_looked_at_when_it_is_its_turn(self):
        server, line = server_and_console()
        with self.assertRaises(UnknownRole):
            line.run_all(["has zed read pay", "nonsense"])
        value = []
        expect(self, InvalidCommand, "value", value, lambda: line.run_all(["has ann read pay", value,
                                                                           "has zed read pay"]))
        self.assertEqual(line.run_all(["as dba : make table new dba", "grants new", "as dba : give read new ann",
                                       "grants new"]),
                         ["done", "none", "done", "dba ann read"])

    def test_a_hundred_lines_and_one_more(self):
        line = console()
        self.assertEqual(line.run_all(["has ann read pay"] * 100), ["no"] * 100)
        lines = ["has ann read pay"] * 101
        expect(self, InvalidLines, "value", lines, lambda: line.run_all(lines))
        self.assertEqual(len(line.history()), 100)

    def test_no_lines(self):
        line = console()
        for value in any_values() + ["undo", {"undo": 1}, line]:
            if not isinstance(value, (list, tuple)):
                expect(self, InvalidLines, "value", value, lambda: line.run_all(value))
        long = tuple(["undo"] * 101)
        expect(self, InvalidLines, "value", long, lambda: line.run_all(long))

    def test_in_a_block_of_another_one(self):
        server, line = server_and_console()
        with self.assertRaises(UnknownRole):
            with Block(server):
                line.run_all(["as dba : give read pay ann"])
                self.assertEqual(len(server.system), 1)
                line("has zed read pay")
        self.assertEqual([server.system, line.history()], [office(), ["as dba : give read pay ann"]])


if __name__ == "__main__":
    unittest.main()
