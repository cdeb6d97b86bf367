"""What the document promises over the whole program [9]: all its parts tell the same."""

import unittest

from rolereach.access import Access, act_path, acting, has, inherited, reason
from rolereach.consoles import Console
from rolereach.errors import MissingError, RoleError, StateError
from rolereach.extents import Extent, begin, is_closed, reach, rounds
from rolereach.grants import Default, Grant
from rolereach.plans import can_ever, first_round, is_lean, run_plan
from rolereach.running import do
from rolereach.servers import Block, Server
from rolereach.standing import ranks, standing, without
from rolereach.systems import System
from rolereach.teams import cut_papers, helpers, is_cut_papers, is_team_papers, needed, team_papers
from rolereach.texts import read_deed, read_system, read_thing, system_text, thing_text
from rolereach.things import Call, Function, Give, Role, Table
from tests.plain_deeds import ROLES, outcome, shop, some_deed
from tests.plain_extents import all_goals, some_team
from tests.worlds import Dice, full_system, questions

ERRORS = (RoleError, MissingError, StateError)


def result(action):
    """What an action returns or raises, to be compared."""
    try:
        return action()
    except ERRORS as error:
        return outcome(error)


class SameSystemTest(unittest.TestCase):
    def test_deeds_sessions_lines_and_texts(self):
        for seed in range(120):
            dice = Dice(seed)
            system = shop(dice)
            server, console = Server(system), Console(Server(system))
            for _ in range(6):
                role, deed = dice.pick(ROLES), some_deed(dice, system)
                done = result(lambda: do(system, role, deed))
                expected = done if isinstance(done, tuple) else ("same" if done == system else "done")
                self.assertEqual(result(lambda: server.session(role).perform(deed)),
                                 expected if isinstance(done, tuple) else expected == "done")
                self.assertEqual(result(lambda: console(f"as {role} : {deed}")), expected)
                self.assertEqual(server.log()[-1][3], expected[0] if isinstance(done, tuple) else expected)
                if not isinstance(done, tuple):
                    system = done
                self.assertEqual([server.system, read_system(system_text(system))], [system, system])
                self.assertEqual(read_deed(str(deed)), deed)
                self.assertEqual([read_thing(thing_text(thing)) for thing in system.things()], system.things())
            self.assertEqual(System(system.things(), system.grants(), system.defaults()), system)

    def test_a_row_of_lines_is_a_block_of_deeds(self):
        for seed in range(60):
            dice = Dice(seed)
            system = shop(dice)
            server, other = Server(system), Server(system)
            deeds = [(dice.pick(ROLES), some_deed(dice, system)) for _ in range(2)]
            lines = [f"as {role} : {deed}" for role, deed in deeds]
            answers = result(lambda: Console(server).run_all(lines))
            self.assertEqual(answers, result(lambda: self.in_block(other, deeds)))
            self.assertEqual([server.system, server.changes(), server.log()],
                             [other.system, other.changes(), other.log()])
            if isinstance(answers, tuple):
                self.assertEqual([server.system, server.changes()], [system, 0])

    def in_block(self, server, deeds):
        with Block(server):
            return ["done" if server.session(role).perform(deed) else "same" for role, deed in deeds]

    def test_plans_are_deeds(self):
        for seed in range(40):
            dice = Dice(seed)
            system, team = shop(dice), some_team(dice)
            for goal in all_goals(system)[seed % 11::11]:
                word, plan = can_ever(system, team, goal)
                if word == "plan":
                    console = Console(Server(system))
                    for step in plan:
                        console("as " + " ".join(step.path()) + " : " + str(step.deed))
                    self.assertEqual(console._server.system, run_plan(system, team, plan))

    def test_what_is_undone_leaves_no_trace(self):
        for seed in range(60):
            dice = Dice(seed)
            system = shop(dice)
            server = Server(system)
            for _ in range(5):
                result(lambda: server.session(dice.pick(ROLES)).perform(some_deed(dice, server.system)))
            after = server.system
            for _ in range(server.changes()):
                server.undo()
            self.assertEqual([server.system, system_text(server.system)], [system, system_text(system)])
            while result(server.redo) is None:
                self.assertGreater(server.changes(), 0)
            self.assertEqual(server.system, after)


NEW = {"dba": "zz", "ann": "yan", "bob": "bobo", "eve": "a", "pay": "option", "f": "grant", "g": "by", "h": "cascade"}


def renamed(value):
    """A system, deed, grant, goal or extent with other names."""
    if isinstance(value, str):
        return NEW.get(value, value)
    if isinstance(value, (list, tuple)):
        return type(value)(renamed(item) for item in value)
    if isinstance(value, Grant):
        return Grant(*renamed(value.key()), option=value.option)
    if isinstance(value, Default):
        return Default(renamed(value.maker), value.kind, value.right, renamed(value.taker), option=value.option)
    if isinstance(value, Give):
        return Give(value.right, renamed(value.thing), renamed(value.taker), option=value.option)
    if isinstance(value, Call):
        return Call(renamed(value.function))
    if isinstance(value, Function):
        return Function(renamed(value.name), renamed(value.owner), audience=renamed(value.audience), mode=value.mode,
                        body=renamed(value.body()))
    if isinstance(value, (Role, Table)):
        return type(value)(renamed(value.name), renamed(value.owner), audience=renamed(value.audience))
    if isinstance(value, System):
        return System(renamed(value.things()), renamed(value.grants()), renamed(value.defaults()))
    if isinstance(value, Extent):
        return Extent(renamed(value.roles()), {renamed(spot): level for spot, level in value.levels().items()})
    return value


class NamesTest(unittest.TestCase):
    def test_names_make_no_difference(self):
        for seed in range(40):
            dice = Dice(seed)
            system, team = shop(dice, 8, 0), some_team(dice)
            other = renamed(system)
            self.assertEqual(renamed(rounds(system, team)), rounds(other, renamed(team)))
            self.assertEqual(renamed(Access(system).rows()), Access(other).rows())
            self.assertEqual(renamed(acting(system, team)), acting(other, renamed(team)))
            for goal in all_goals(system)[seed % 7::7]:
                word, plan = can_ever(system, team, goal)
                self.assertEqual(word, can_ever(other, renamed(team), renamed(goal))[0])
                self.assertEqual(first_round(system, team, goal), first_round(other, renamed(team), renamed(goal)))
                self.assertEqual(renamed(helpers(system, team, goal)), helpers(other, renamed(team), renamed(goal)))
                self.assertEqual([[indices for indices, _ in part] for part in team_lists(system, goal)],
                                 [[indices for indices, _ in part] for part in team_lists(other, renamed(goal), NEW)])
                found = needed(system, team, goal)
                expected = None if found is None else {grant.key() for grant in renamed(found)}
                found = needed(other, renamed(team), renamed(goal))
                self.assertEqual(None if found is None else {grant.key() for grant in found}, expected)


def team_lists(system, goal, names=None):
    """The team papers, with the roles of each team by their old names."""
    logins = ["eve", "dba", "ann"]
    back = {new: old for old, new in (names or {}).items()}
    papers = team_papers(system, [(names or {}).get(role, role) for role in logins], goal)
    return [[([back.get(role, role) for role in team], shown) for team, shown in part] for part in papers]


class OrderTest(unittest.TestCase):
    def mixed(self, system):
        """The same things in another order, in which functions still stand behind those that they call."""
        things = system.things()
        functions = [thing for thing in things if thing.kind == "function"]
        others = [thing for thing in things if thing.kind != "function"]
        return System(others[::-1][:2] + functions[:1] + others[::-1][2:] + functions[1:], system.grants()[::-1],
                      system.defaults()[::-1])

    def test_the_order_of_things_makes_no_difference_but_to_lists(self):
        for seed in range(40):
            dice = Dice(seed)
            system, team = shop(dice), some_team(dice)
            other = self.mixed(system)
            self.assertEqual([system.grants(), system.defaults()], [other.grants(), other.defaults()])
            self.assertEqual([rounds(system, team), begin(system, team)],
                             [rounds(other, team[::-1]), begin(other, team)])
            for role, right, thing in questions(system)[::5]:
                self.assertEqual(has(system, role, right, thing), has(other, role, right, thing))
                self.assertEqual(len(reason(system, role, right, thing) or []),
                                 len(reason(other, role, right, thing) or []))
                self.assertEqual(set(inherited(system, role)), set(inherited(other, role)))
                self.assertEqual(len(act_path(system, team, role) or []), len(act_path(other, team, role) or []))
            for goal in all_goals(system)[seed % 13::13]:
                word, found = can_ever(system, team, goal)
                self.assertEqual(word, can_ever(other, team, goal)[0])
                if word == "plan":
                    self.assertTrue(is_lean(other, team, goal, found))
                else:
                    self.assertTrue(is_closed(other, team, found))
                papers = team_papers(system, ROLES[1:], goal)
                self.assertTrue(is_team_papers(other, ROLES[:0:-1], goal, papers))
                grants = system.grants()[:3]
                self.assertTrue(is_cut_papers(other, team, goal, grants, cut_papers(system, team, goal, grants)))

    def test_the_order_of_grants_makes_no_difference(self):
        for seed in range(40):
            system = shop(Dice(seed))
            grants = system.grants()
            self.assertEqual(System(system.things(), grants[::-1], system.defaults()[::-1]), system)
            self.assertEqual([standing(system, grants), ranks(system, grants)],
                             [standing(system, grants[::-1]), ranks(system, grants[::-1])])


class HistoryTest(unittest.TestCase):
    """A system answers alike however it came about."""

    def same_answers(self, system):
        fresh = System(system.things(), system.grants(), system.defaults())
        self.assertEqual(system, fresh)
        self.assertEqual(Access(system).rows(), Access(fresh).rows())
        for team in [[], ROLES[1:2], ROLES[2:], ROLES]:
            self.assertEqual([rounds(system, team), acting(system, team)], [rounds(fresh, team), acting(fresh, team)])

    def test_changed_systems(self):
        for seed in range(60):
            dice = Dice(seed)
            system = shop(dice)
            # The questions are asked before each change, too, so that what is kept for them would show.
            self.same_answers(system)
            other = System(system.things(), standing(system, system.grants()[::2]))
            for thing in system.things():
                if dice.below(3) == 0 and thing.admits("ann") and thing.owner != "ann":
                    right = dice.pick(thing.rights())
                    other = other.with_grant(Grant(thing.owner, "ann", right, thing.name, option=dice.below(2) == 0))
            self.same_answers(other)
            self.same_answers(system.joined(other))
            self.same_answers(other.joined(system))
            if system.grants():
                self.same_answers(without(system, [dice.pick(system.grants())])[0])
                self.same_answers(without(system, system.grants()[:1], only_option=True)[0])
            self.same_answers(system.with_default(Default("eve", "table", "read", "public")))

    def test_things_that_are_added(self):
        for seed in range(40):
            dice = Dice(seed)
            system = shop(dice)
            if seed % 2 == 0:
                system = system.with_grant(Grant(system.owner_of("pay"), "public", "read", "pay")
                                           if system.thing_of("pay").admits("public") else system.grants()[0])
            self.same_answers(system)
            for thing in [Role("new", "new"), Table("x", "new"),
                          Function("y", "ann", body=[Give("read", "x", "caller")])]:
                system = system.with_thing(thing)
                self.same_answers(system)
            system = system.with_grant(Grant("new", "ann", "act", "new"))
            self.same_answers(system.with_grant(Grant("new", "dba", "read", "x", option=True)))


class NewListsTest(unittest.TestCase):
    def test_what_is_returned_may_be_changed(self):
        system, goal = shop(Dice(3)), ("use", "read", "pay")
        grants = system.grants()[:2]
        for action in [lambda: rounds(system, ROLES[1:]), lambda: team_papers(system, ROLES[:2], goal),
                       lambda: cut_papers(system, ROLES[:2], goal, grants), lambda: helpers(system, [], goal),
                       lambda: can_ever(system, ["dba"], goal), lambda: needed(system, ROLES, goal)]:
            first, again = action(), action()
            self.assertEqual(first, again)
            for one, other in zip(lists_in(first), lists_in(again)):
                self.assertIsNot(one, other)
            self.assertEqual(len({id(part) for part in lists_in(first)}), len(lists_in(first)))
            for part in lists_in(again):
                part.clear()
            self.assertEqual(action(), first)

    def test_the_greatest_system_is_answered(self):
        system, team = full_system(), ["b"]
        self.assertEqual(reach(system, team), reach(system, ["h", "a"]))
        self.assertEqual(len(helpers(system, team, ("act", "a"))), 7)
        self.assertEqual(cut_papers(system, team, ("option", "c", "read", "ta"), system.grants()[:5])[0], [])


def lists_in(value):
    """All lists within a value."""
    parts = list(value) if isinstance(value, (list, tuple)) else []
    return ([value] if isinstance(value, list) else []) + [found for part in parts for found in lists_in(part)]


if __name__ == "__main__":
    unittest.main()
