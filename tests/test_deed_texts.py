import unittest

from rolereach.things import Call, Function, Give, Make, Preset, Table, Take, Use


class DeedTextsTest(unittest.TestCase):
    def test_give(self):
        self.assertEqual(str(Give("read", "pay", "ann")), "give read pay ann")
        self.assertEqual(str(Give("act", "dba", "caller", option=True)), "give act dba caller option")
        self.assertEqual(str(Give("call", "f", "public")), "give call f public")
        self.assertEqual(str(Give("inherit", "option", "option")), "give inherit option option")

    def test_take(self):
        expected = {
            (None, False, False): "take read pay ann",
            (None, False, True): "take read pay ann cascade",
            (None, True, False): "take read pay ann option",
            (None, True, True): "take read pay ann option cascade",
            ("dba", False, False): "take read pay ann by dba",
            ("dba", False, True): "take read pay ann by dba cascade",
            ("dba", True, False): "take read pay ann by dba option",
            ("dba", True, True): "take read pay ann by dba option cascade",
        }
        for (giver, only_option, cascade), text in expected.items():
            deed = Take("read", "pay", "ann", giver=giver, only_option=only_option, cascade=cascade)
            self.assertEqual(str(deed), text)
        self.assertEqual(str(Take("write", "pay", "public", giver="by")), "take write pay public by by")

    def test_call_and_use(self):
        self.assertEqual(str(Call("open")), "call open")
        self.assertEqual(str(Use("inherit", "ann")), "use inherit ann")

    def test_preset(self):
        self.assertEqual(str(Preset("table", "write", "public")), "preset table write public")
        self.assertEqual(str(Preset("function", "call", "ann", option=True)), "preset function call ann option")


class MakeTextsTest(unittest.TestCase):
    def same(self, thing, text):
        self.assertEqual(str(Make(thing)), "make " + text)

    def test_tables(self):
        self.same(Table("pay", "ann"), "table pay ann")
        self.same(Table("pay", "ann", audience=[]), "table pay ann audience")
        self.same(Table("pay", "ann", audience=["eve", "ann", "bob"]), "table pay ann audience ann bob eve")

    def test_functions_without_a_body(self):
        self.same(Function("f", "ann"), "function f ann owner")
        self.same(Function("f", "ann", mode="caller"), "function f ann caller")
        self.same(Function("f", "ann", audience=[], mode="caller"), "function f ann caller audience")
        self.same(Function("f", "ann", audience=["z", "a"]), "function f ann owner audience a z")

    def test_functions_with_a_body(self):
        self.same(Function("f", "ann", body=[Call("g")]), "function f ann owner : call g")
        self.same(Function("f", "ann", audience=[], body=[Call("g"), Call("h")]),
                  "function f ann owner audience : call g ; call h")
        body = [Give("read", "pay", "caller", option=True), Call("g"), Give("act", "dba", "public"), Call("f")]
        self.same(Function("f", "ann", audience=["bob", "ann"], mode="caller", body=body),
                  "function f ann caller audience ann bob : "
                  "give read pay caller option ; call g ; give act dba public ; call f")


if __name__ == "__main__":
    unittest.main()
