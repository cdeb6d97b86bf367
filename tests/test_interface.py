"""The names, parameters and methods that the document's interface lists."""

import inspect
import unittest

from rolereach import access, consoles, extents, grants, names, plans, running, servers, standing, systems, teams
from rolereach import texts, things

FUNCTIONS = {names: {
    "is_name": "(value)", "is_taker": "(value)", "is_right": "(value)", "is_flag": "(value)",
    "is_list": "(value)", "is_names": "(value, most)", "rights_of": "(kind)", "kind_of": "(right)",
    "split_words": "(text, *, separator=' ')",
}, standing: {
    "standing": "(system, grants)", "ranks": "(system, grants)", "is_ranking": "(system, grants, rows)",
    "is_cut_off": "(system, grants, grant, roles)", "cut_off": "(system, grants, grant)",
    "without": "(system, grants, *, only_option=False)", "support": "(system, grant)",
}, access: {
    "inherited": "(system, role)", "holds": "(system, role, right, thing, *, option=False)",
    "has": "(system, role, right, thing)", "reason": "(system, role, right, thing)",
    "is_reason": "(system, role, right, thing, value)", "barrier": "(system, role, right, thing)",
    "is_barrier": "(system, role, right, thing, roles)", "acting": "(system, roles)",
    "act_path": "(system, roles, role)",
}, running: {
    "do": "(system, role, deed)",
}, servers: {
    "within": "(manager, action)",
}, texts: {
    "read_deed": "(text)", "thing_text": "(thing)", "read_thing": "(text)", "system_text": "(system)",
    "read_system": "(text)",
}, extents: {
    "begin": "(system, team)", "advance": "(system, extent)", "reach": "(system, team)", "rounds": "(system, team)",
    "is_closed": "(system, team, value)", "is_goal": "(system, value)", "meets": "(system, extent, goal)",
}, plans: {
    "run_plan": "(system, team, plan)", "is_plan": "(system, team, goal, value)",
    "is_lean": "(system, team, goal, value)", "can_ever": "(system, team, goal)",
    "is_never": "(system, team, goal, value)", "first_round": "(system, team, goal)",
    "is_too_early": "(system, team, goal, extents)",
}, teams: {
    "team_papers": "(system, logins, goal)", "is_team_papers": "(system, logins, goal, value)",
    "helpers": "(system, team, goal)", "cut_papers": "(system, team, goal, grants)",
    "is_cut_papers": "(system, team, goal, grants, value)", "needed": "(system, team, goal)",
    "parting_team": "(one, other, logins)",
}}

ORDER = ["__eq__", "__lt__", "__le__", "__gt__", "__ge__"]
SIGNS = ["__eq__", "__le__", "__ge__", "__len__", "__contains__"]

# The classes of the later files, with the parameters of their listed methods.
LATER = {
    (grants, "Grant"): ("(giver, taker, right, thing, *, option=False)", ORDER,
                        {"covers": "(self, other)", "with_option": "(self, option)", "key": "(self)"}),
    (grants, "Default"): ("(maker, kind, right, taker, *, option=False)", ORDER, {"grant_on": "(self, thing)"}),
    (systems, "System"): ("(things, grants=(), defaults=())", SIGNS, {
        "things": "(self)", "names": "(self, kind=None)", "grants": "(self)", "defaults": "(self)",
        "thing_of": "(self, name)", "owner_of": "(self, name)", "steps": "(self, name)",
        "option_of": "(self, giver, taker, right, thing)", "with_thing": "(self, thing)",
        "with_grant": "(self, grant)", "with_default": "(self, default)", "joined": "(self, other)"}),
    (access, "Access"): ("(system)", ["__len__", "__contains__"],
                         {"__call__": "(self, role, right, thing)", "rows": "(self)"}),
    (servers, "Server"): ("(system)", [], {"session": "(self, login)", "log": "(self)", "undo": "(self)",
                                           "redo": "(self)", "changes": "(self)"}),
    (servers, "Session"): ("(server, login)", [], {"path": "(self)", "act_as": "(self, role)", "leave": "(self)",
                                                   "perform": "(self, deed)"}),
    (servers, "Acting"): ("(session, role)", ["__enter__", "__exit__"], {}),
    (servers, "Block"): ("(server)", ["__enter__", "__exit__"], {}),
    (extents, "Extent"): ("(roles, levels)", ["__eq__", "__le__", "__ge__", "__or__", "__and__", "__len__"], {
        "roles": "(self)", "levels": "(self)", "level": "(self, taker, right, thing)", "rows": "(self)"}),
    (plans, "Step"): ("(path, deed)", ["__eq__"], {"path": "(self)"}),
    (consoles, "Console"): ("(server)", [], {"__call__": "(self, line)", "run_all": "(self, lines)",
                                             "commands": "(self)", "history": "(self)"}),
}

CLASSES = {
    "Give": ("Deed", "(right, thing, taker, *, option=False)", ["__eq__", "__str__"]),
    "Take": ("Deed", "(right, thing, taker, *, giver=None, only_option=False, cascade=False)", ["__eq__", "__str__"]),
    "Call": ("Deed", "(function)", ["__eq__", "__str__"]),
    "Preset": ("Deed", "(kind, right, taker, *, option=False)", ["__eq__", "__str__"]),
    "Use": ("Deed", "(right, thing)", ["__eq__", "__str__"]),
    "Make": ("Deed", "(thing)", ["__eq__", "__str__"]),
    "Role": ("Thing", "(name, owner, *, audience=None)", ["__eq__", "rights", "admits"]),
    "Table": ("Thing", "(name, owner, *, audience=None)", ["__eq__", "rights", "admits"]),
    "Function": ("Thing", "(name, owner, *, audience=None, mode='owner', body=())",
                 ["__eq__", "rights", "admits", "body", "__len__"]),
}


class InterfaceTest(unittest.TestCase):
    def test_functions(self):
        for module, functions in FUNCTIONS.items():
            for name, signature in functions.items():
                function = getattr(module, name)
                self.assertEqual(function.__module__, module.__name__)
                self.assertEqual(str(inspect.signature(function)), signature)

    def test_classes(self):
        for name, (base, signature, methods) in CLASSES.items():
            found = getattr(things, name)
            self.assertEqual(found.__module__, "rolereach.things")
            self.assertEqual(found.__bases__, (getattr(things, base),))
            self.assertEqual(str(inspect.signature(found)), signature)
            for method in methods:
                self.assertIn(method, vars(found), name)

    def test_classes_of_the_later_files(self):
        for (module, name), (signature, signs, methods) in LATER.items():
            found = getattr(module, name)
            self.assertEqual([found.__module__, found.__bases__], [module.__name__, (object,)])
            self.assertEqual(str(inspect.signature(found)), signature)
            for sign in signs:
                self.assertIn(sign, vars(found), name)
            for method, parameters in methods.items():
                self.assertEqual(str(inspect.signature(vars(found)[method])), parameters, name)

    def test_the_base_class_of_the_things(self):
        for method in ["__eq__", "rights", "admits"]:
            self.assertIn(method, vars(things.Thing))
        self.assertEqual(str(inspect.signature(things.Thing.admits)), "(self, taker)")


if __name__ == "__main__":
    unittest.main()
