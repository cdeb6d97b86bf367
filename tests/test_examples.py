"""The examples of the document, stage by stage."""

import unittest

from rolereach.names import is_flag, is_name, is_names, is_taker, kind_of, rights_of, split_words
from rolereach.things import Call, Function, Give, Make, Role, Table


class StageOneTest(unittest.TestCase):
    def test_predicates(self):
        self.assertEqual(
            [is_name("ann"), is_name("public"), is_taker("public"), is_flag(0), is_names(["ann", "ann"], 3)],
            [True, False, True, False, False])

    def test_rights_and_words(self):
        self.assertEqual(
            [rights_of("role"), kind_of("call"), split_words("a b+c", separator="+"), split_words("a  b")],
            [['inherit', 'act'], 'function', ['a b', 'c'], None])


class StageTwoTest(unittest.TestCase):
    def test_function_and_audience(self):
        grant = Function("grant", "dba", mode="owner", body=[Give("read", "pay", "caller"), Call("other")])
        self.assertEqual(
            [grant.mode, len(grant), [str(deed) for deed in grant.body()],
             Table("pay", "dba", audience=["eve", "ann"]).audience],
            ['owner', 2, ['give read pay caller', 'call other'], ['ann', 'eve']])

    def test_admits_rights_and_option(self):
        self.assertEqual(
            [Table("pay", "dba", audience=["ann"]).admits("public"), Role("ops", "ops").rights(),
             Give("read", "pay", "ann").option],
            [False, ['inherit', 'act'], False])

    def test_text(self):
        self.assertEqual(
            str(Make(Function("f", "ann", audience=[], body=[Call("g"), Call("h")]))),
            'make function f ann owner audience : call g ; call h')


if __name__ == "__main__":
    unittest.main()
