"""The names, parameters and methods that the document's interface lists."""

import inspect
import unittest

from rolereach import names, things

FUNCTIONS = {
    "is_name": "(value)", "is_taker": "(value)", "is_right": "(value)", "is_flag": "(value)",
    "is_list": "(value)", "is_names": "(value, most)", "rights_of": "(kind)", "kind_of": "(right)",
    "split_words": "(text, *, separator=' ')",
}

CLASSES = {
    "Give": ("Deed", "(right, thing, taker, *, option=False)", ["__eq__", "__str__"]),
    "Take": ("Deed", "(right, thing, taker, *, giver=None, only_option=False, cascade=False)", ["__eq__", "__str__"]),
    "Call": ("Deed", "(function)", ["__eq__", "__str__"]),
    "Preset": ("Deed", "(kind, right, taker, *, option=False)", ["__eq__", "__str__"]),
    "Use": ("Deed", "(right, thing)", ["__eq__", "__str__"]),
    "Make": ("Deed", "(thing)", ["__eq__", "__str__"]),
    "Role": ("Thing", "(name, owner, *, audience=None)", ["__eq__", "rights", "admits"]),
    "Table": ("Thing", "(name, owner, *, audience=None)", ["__eq__", "rights", "admits"]),
    "Function": ("Thing", "(name, owner, *, audience=None, mode='owner', body=())",
                 ["__eq__", "rights", "admits", "body", "__len__"]),
}


class InterfaceTest(unittest.TestCase):
    def test_functions(self):
        for name, signature in FUNCTIONS.items():
            function = getattr(names, name)
            self.assertEqual(function.__module__, "rolereach.names")
            self.assertEqual(str(inspect.signature(function)), signature)

    def test_classes(self):
        for name, (base, signature, methods) in CLASSES.items():
            found = getattr(things, name)
            self.assertEqual(found.__module__, "rolereach.things")
            self.assertEqual(found.__bases__, (getattr(things, base),))
            self.assertEqual(str(inspect.signature(found)), signature)
            for method in methods:
                self.assertIn(method, vars(found), name)

    def test_the_base_class_of_the_things(self):
        for method in ["__eq__", "rights", "admits"]:
            self.assertIn(method, vars(things.Thing))
        self.assertEqual(str(inspect.signature(things.Thing.admits)), "(self, taker)")


if __name__ == "__main__":
    unittest.main()
