"""Texts of deeds, things and systems, written and read back [91] to [94]."""

import itertools
import unittest

from rolereach.errors import DuplicateDefault, DuplicateGrant, DuplicateName, InvalidDefault, InvalidGrant
from rolereach.errors import InvalidGrants, InvalidLine, InvalidStep, InvalidSystem, InvalidText, InvalidThing
from rolereach.errors import InvalidThings, TooMany, UnknownRole, Unrooted
from rolereach.grants import Default, Grant
from rolereach.systems import System
from rolereach.texts import read_deed, read_system, read_thing, system_text, thing_text
from rolereach.things import Call, Deed, Function, Give, Make, Preset, Role, Table, Take, Thing, Use
from tests.plain_deeds import shop, some_deed
from tests.values import any_values, expect
from tests.worlds import Dice, full_system, office, random_system

THINGS = [
    Role("ann", "ann"), Role("role", "owner", audience=[]), Table("pay", "dba", audience=["eve", "ann"]),
    Table("audience", "audience", audience=["audience"]), Function("f", "ann"), Function("f", "ann", mode="caller"),
    Function("option", "by", audience=list("hgfedcba"), mode="caller", body=[Call("g")] * 4),
    Function("f", "ann", audience=[], body=[Give("read", "pay", "caller", option=True), Call("call"),
                                            Give("act", "give", "public"), Give("call", "option", "option")]),
]

DEEDS = [
    Give("read", "pay", "ann"), Give("inherit", "a", "caller", option=True), Give("call", "f", "public"),
    Give("write", "option", "option"), Give("act", "give", "give", option=True),
    Take("read", "pay", "ann"), Take("read", "pay", "public", giver="by"),
    Take("read", "pay", "by", giver="option", only_option=True), Take("act", "by", "by", cascade=True),
    Take("call", "option", "cascade", giver="cascade", only_option=True, cascade=True),
    Take("call", "f", "option", only_option=True), Take("write", "pay", "ann", giver="cascade"),
    Call("f"), Call("call"), Preset("table", "read", "ann"), Preset("function", "call", "option", option=True),
    Preset("table", "write", "public"), Use("read", "pay"), Use("act", "use"),
] + [Make(thing) for thing in THINGS if not isinstance(thing, Role)]

NO_DEEDS = [
    "", " ", "give", "give read", "give read pay", "give read pay ann ", " give read pay ann", "give  read pay ann",
    "give read pay ann option option", "give read pay ann opt", "give read pay public option", "give read pay Ann",
    "give read\npay ann", "give read pay ann\n", "\ngive read pay ann", "give\tread pay ann", "give read pay ann\r",
    "Give read pay ann", "give reads pay ann", "give read pay ann;", "give read caller ann", "give read public ann",
    "take read pay ann cascade option", "take read pay ann by", "take read pay caller",
    "take read pay ann option by dba",
    "take read pay ann by dba by dba", "take read pay ann option option", "take read pay",
    "take read pay ann by public",
    "take read pay ann cascade by dba", "take read pay ann by dba cascade option", "take read pay ann by caller",
    "call", "call f g", "call public", "call F", "call f ;", "preset role act ann", "preset table call ann",
    "preset table read public option", "preset table read", "preset function read ann", "preset table read ann b",
    "use read", "use read pay ann", "use reads pay", "use", "make", "make pay", "make role ann ann",
    "make make table a b",
    "make table", "make table a", "make table a b c", "make table a b audience b a", "make table a b audience a a",
    "make table a b audience public", "make table a b :", "make function f a", "make function f a owner :",
    "make function f a owner : call", "make function f a owner : ;", "make function f a own",
    "make function f a owner audience a : ", "make function f a owner : call g ;",
    "make function f a owner : ; call g", "make function f a owner : call g ; ; call h", "make function f a : call g",
    "make function f a owner : call g call h", "make function f a owner : use read pay",
    "make function f a owner call g",
    "make function f a owner : take read pay ann", "make function f a owner : make table b a", "role ann ann",
    "make function f a owner : call g ; call g ; call g ; call g ; call g", "make function f a owner : : call g",
    "make function f a owner :call g", "make function f a owner: call g", "make function f a owner : call g; call h",
    "make table a b audience a b c d e f g h i", "grant a b read pay", "default a table read b", "do", "option", ":",
    ";",
    "make " * 2000, "make function f a owner : " * 900, "give " * 3000, "make table a b audience" + " a" * 3000,
]


class DeedTextTest(unittest.TestCase):
    def test_deeds_are_read_back(self):
        for deed in DEEDS:
            read = read_deed(str(deed))
            self.assertEqual([read, type(read), str(read)], [deed, type(deed), str(deed)])
            self.assertIsNot(read_deed(text=str(deed)), read)

    def test_all_variants_of_take(self):
        for giver, only_option, cascade in itertools.product([None, "by", "dba"], [True, False], [True, False]):
            deed = Take("read", "pay", "ann", giver=giver, only_option=only_option, cascade=cascade)
            self.assertEqual(read_deed(str(deed)), deed)

    def test_random_deeds(self):
        for seed in range(300):
            dice = Dice(seed)
            deed = some_deed(dice, shop(dice))
            self.assertEqual(read_deed(str(deed)), deed)

    def test_no_text_of_a_deed(self):
        for value in NO_DEEDS + any_values():
            expect(self, InvalidText, "value", value, lambda: read_deed(value))

    def test_one_change_in_a_text(self):
        # Whatever is read has the very text, so each other text is refused or read as another deed.
        for deed in DEEDS:
            text = str(deed)
            for at in range(len(text)):
                for other in [text[:at] + text[at + 1:], text[:at] + " " + text[at:], text[:at] + "x" + text[at + 1:]]:
                    try:
                        self.assertEqual(str(read_deed(other)), other)
                    except InvalidText:
                        pass


class ThingTextTest(unittest.TestCase):
    def test_things_are_read_back(self):
        for thing in THINGS:
            text = thing_text(thing)
            self.assertEqual([read_thing(text), thing_text(read_thing(text)), text], [thing, text, str(thing)])
        self.assertEqual(thing_text(thing=THINGS[1]), "role role owner audience")
        self.assertEqual(read_thing(text="table pay dba audience ann eve"), THINGS[2])

    def test_no_thing(self):
        for value in any_values():
            if not isinstance(value, Thing):
                expect(self, InvalidThing, "value", value, lambda: thing_text(value))
        expect(self, InvalidThing, "value", DEEDS[0], lambda: thing_text(DEEDS[0]))

    def test_no_text_of_a_thing(self):
        texts = [text[5:] for text in NO_DEEDS if text.startswith("make ") and not text.startswith("make role")]
        texts += ["role ann", "role public ann", "role ann ann owner", "role a a audience b a", "call g",
                  "give read pay ann",
                  "function f a caller ; call g", "table pay caller", "role a a :", "table a b\n",
                  "role a a audience b ",
                  "grant a b read pay"]
        for value in texts + any_values():
            expect(self, InvalidText, "value", value, lambda: read_thing(value))


SOME = System(
    [Role("dba", "dba"), Role("ann", "dba", audience=["dba"]), Table("pay", "ann"),
     Function("f", "dba", mode="caller", body=[Give("read", "pay", "caller")])],
    [Grant("ann", "dba", "read", "pay", option=True), Grant("dba", "public", "call", "f")],
    [Default("dba", "table", "read", "ann", option=True), Default("ann", "function", "call", "public")])

LINES = ["role dba dba", "role ann dba audience dba", "table pay ann", "function f dba caller : give read pay caller",
         "grant dba public call f", "grant ann dba read pay option", "default ann function call public",
         "default dba table read ann option"]


class SystemTextTest(unittest.TestCase):
    def test_a_system(self):
        self.assertEqual(system_text(SOME), "\n".join(LINES))
        self.assertEqual(read_system("\n".join(LINES)), SOME)
        self.assertEqual(system_text(system=read_system(text="role a a")), "role a a")

    def test_the_empty_text(self):
        self.assertEqual([system_text(System([])), read_system("")], ["", System([])])

    def test_systems_are_read_back(self):
        for seed in range(60):
            for system in [random_system(seed, 15), shop(Dice(seed))]:
                text = system_text(system)
                self.assertEqual([read_system(text), system_text(read_system(text))], [system, text])
        system = full_system()
        self.assertLess(len(system_text(system)), 120000)
        self.assertEqual(read_system(system_text(system)), system)

    def test_grants_and_defaults_in_any_order(self):
        for first, second in [(4, 5), (6, 7)]:
            lines = list(LINES)
            lines[first], lines[second] = lines[second], lines[first]
            self.assertEqual(read_system("\n".join(lines)), SOME)

    def test_things_keep_their_order(self):
        lines = [LINES[1], LINES[0]] + LINES[2:]
        self.assertEqual(read_system("\n".join(lines)).names(), ["ann", "dba", "pay", "f"])

    def test_no_system(self):
        for value in any_values():
            if not isinstance(value, System):
                expect(self, InvalidSystem, "value", value, lambda: system_text(value))

    def line_is_wrong(self, text, number):
        with self.assertRaises(InvalidLine) as caught:
            read_system(text)
        self.assertEqual([type(caught.exception.index), caught.exception.index], [int, number])

    def test_no_string(self):
        for value in any_values():
            if not isinstance(value, str):
                self.line_is_wrong(value, 0)

    def test_lines_that_are_none(self):
        wrong = ["", " ", "role dba", "role  x dba", "role x dba ", "grant dba ann act",
                 "grant dba public call f option",
                 "grant dba dba call f", "grant dba ann calls f", "grant dba ann call f options",
                 "grant dba ann call f x",
                 "default dba role act ann", "default dba table call ann", "default dba table read dba",
                 "default dba table",
                 "default dba table read public option", "default dba table read ann option x", "give read pay ann",
                 "make table a dba", "role x dba\r", "role\tx dba", "Role x dba", "#", "grant dba ann call f;"]
        for line in wrong:
            for at in range(len(LINES) + 1):
                self.line_is_wrong("\n".join(LINES[:at] + [line] + LINES[at:]), at + 1)
            self.line_is_wrong("\n".join([line] + LINES + [line]), 1)

    def test_line_ends(self):
        self.line_is_wrong("\n", 1)
        self.line_is_wrong("role a a\n", 2)
        self.line_is_wrong("role a a\n\nrole b b", 2)
        self.line_is_wrong("\nrole a a", 1)
        self.line_is_wrong("role a a\r\nrole b b", 1)
        self.line_is_wrong("role a a role b b", 1)

    def test_lines_out_of_order(self):
        self.line_is_wrong("\n".join(LINES[:5] + LINES[:1]), 6)
        self.line_is_wrong("\n".join(LINES[:4] + ["default dba table read ann", "table new dba"]), 6)
        self.line_is_wrong("\n".join(LINES[:4] + ["default dba table read ann", LINES[4]]), 6)
        self.line_is_wrong("default dba table read ann\nrole a a", 2)
        # A line that is none comes before what the system of the other lines raises.
        self.line_is_wrong("role a a\nrole a a\ntable b zed\nx", 4)

    def test_what_the_system_raises(self):
        cases = [(DuplicateName, "name", "a", "role a a\ntable a a"),
                 (UnknownRole, "name", "b", "role a b"), (UnknownRole, "name", "c", "role a a audience c"),
                 (TooMany, "count", 9, "\n".join([f"role {name} a" for name in "abcdefghi"])),
                 (Unrooted, "value", Grant("b", "a", "act", "a"), "role a a\nrole b b\ngrant b a act a"),
                 (InvalidGrant, "value", Grant("a", "b", "act", "a"), "role a a\ngrant a b act a"),
                 (InvalidGrant, "value", Grant("a", "b", "read", "a"), "role a a\nrole b a\ngrant a b read a"),
                 (DuplicateGrant, "value", Grant("a", "b", "act", "a", option=True),
                  "role a a\nrole b a\ngrant a b act a\ngrant a b act a option"),
                 (InvalidDefault, "value", Default("b", "table", "read", "a"), "role a a\ndefault b table read a"),
                 (DuplicateDefault, "value", Default("a", "table", "read", "public"),
                  "role a a" + "\ndefault a table read public" * 2)]
        for error, field, value, text in cases:
            with self.assertRaises(error) as caught:
                read_system(text)
            self.assertEqual(getattr(caught.exception, field), value)
        with self.assertRaises(InvalidStep) as caught:
            read_system("role a a\nfunction f a owner : call g\nfunction g a owner")
        self.assertEqual([caught.exception.name, caught.exception.index], ["f", 0])

    def test_too_many_lines(self):
        names = [a + b for a in "abcde" for b in "abcde"]
        with self.assertRaises(InvalidThings) as caught:
            read_system("\n".join([f"table {name} a" for name in names[:21]]))
        self.assertEqual(len(caught.exception.value), 21)
        with self.assertRaises(InvalidGrants) as caught:
            read_system("role a a\nrole b a" + "\ngrant a b act a" * 2501)
        self.assertEqual(len(caught.exception.value), 2501)
        with self.assertRaises(DuplicateGrant):
            read_system("role a a\nrole b a" + "\ngrant a b act a" * 2500)


class SameSystemTest(unittest.TestCase):
    def test_a_text_tells_systems_apart(self):
        others = [office(), office("dba ann act bob"), office("dba ann act bob option"), office("dba bob act ann"),
                  office().with_default(Default("dba", "table", "read", "ann"))]
        self.assertEqual(len({system_text(system) for system in others}), len(others))

    def test_deeds_have_a_class_each(self):
        self.assertEqual({type(read_deed(str(deed))) for deed in DEEDS}, {Give, Take, Call, Preset, Use, Make})
        self.assertTrue(all(isinstance(deed, Deed) for deed in DEEDS))


if __name__ == "__main__":
    unittest.main()
