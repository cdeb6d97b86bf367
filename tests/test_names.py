import string
import unittest

from rolereach.errors import InvalidKind, InvalidRight
from rolereach.names import is_flag, is_list, is_name, is_names, is_right, is_taker
from rolereach.names import kind_of, rights_of, split_words
from tests.values import BAD_STRINGS, NAMES, any_values, expect, lists, other_values, without

RIGHTS = ["inherit", "act", "read", "write", "call"]
KINDS = {"role": ["inherit", "act"], "table": ["read", "write"], "function": ["call"]}


class PredicatesTest(unittest.TestCase):
    def only(self, predicate, allowed, values):
        for value in allowed:
            self.assertIs(predicate(value), True, repr(value))
        for value in without(values, allowed):
            self.assertIs(predicate(value), False, repr(value))

    def test_is_name(self):
        self.only(is_name, NAMES, any_values())

    def test_is_name_at_its_lengths(self):
        self.assertEqual([is_name("a" * n) for n in (0, 1, 2, 7, 8, 9, 200)],
                         [False, True, True, True, True, False, False])

    def test_is_name_of_each_character(self):
        for code in list(range(32, 127)) + [10]:
            expected = chr(code) in string.ascii_lowercase
            for text in (chr(code), "a" + chr(code), chr(code) + "a", "a" + chr(code) + "a"):
                self.assertIs(is_name(text), expected, repr(text))

    def test_is_name_beyond_ascii(self):
        self.assertEqual([is_name(text) for text in ("\u00e9", "a\u00df", "\u03b1", "\uff41")], [False] * 4)

    def test_is_taker(self):
        self.only(is_taker, NAMES + ["public"], any_values())
        self.assertIs(is_taker("caller"), False)

    def test_is_right(self):
        self.only(is_right, RIGHTS, any_values() + RIGHTS)

    def test_is_flag(self):
        self.only(is_flag, [True, False], any_values())
        self.assertEqual([is_flag(0), is_flag(1), is_flag(None), is_flag("True")], [False] * 4)

    def test_is_list(self):
        self.only(is_list, lists(), any_values())

    def test_is_names(self):
        named = [[], (), ["ann"], ("ann", "bob"), list("abcdefghi")]
        self.only(lambda value: is_names(value, 100), named, any_values())

    def test_is_names_at_most(self):
        for count in range(10):
            for most in range(10):
                self.assertIs(is_names(list("abcdefghi")[:count], most), count <= most)
                self.assertIs(is_names(tuple("abcdefghi")[:count], most), count <= most)

    def test_is_names_of_items_that_are_no_names(self):
        for value in without(any_values(), NAMES):
            self.assertIs(is_names([value], 3), False, repr(value))
            self.assertIs(is_names(("ann", value), 3), False, repr(value))

    def test_is_names_distinct(self):
        self.assertEqual([is_names(["ann", "ann"], 2), is_names(["a", "b", "a"], 9), is_names("ann", 9)], [False] * 3)

    def test_is_names_of_a_hundred(self):
        many = [a + b for a in "abcdefghij" for b in "abcdefghij"]
        self.assertEqual([is_names(many, 100), is_names(many, 99), is_names(many + ["a"], 100)], [True, False, False])

    def test_arguments_by_name(self):
        self.assertIs(is_name(value="ann"), True)
        self.assertIs(is_taker(value="public"), True)
        self.assertIs(is_right(value="act"), True)
        self.assertIs(is_flag(value=False), True)
        self.assertIs(is_list(value=()), True)
        self.assertIs(is_names(value=["ann"], most=1), True)

    def test_values_are_not_changed(self):
        value = ["bob", "ann"]
        is_names(value, 5)
        is_list(value)
        self.assertEqual(value, ["bob", "ann"])


class RightsTest(unittest.TestCase):
    def test_rights_of(self):
        for kind, rights in KINDS.items():
            self.assertEqual(rights_of(kind), rights)
            self.assertIs(type(rights_of(kind)), list)
            self.assertEqual(rights_of(kind=kind), rights)

    def test_rights_of_is_new_each_time(self):
        for kind, rights in KINDS.items():
            first = rights_of(kind)
            self.assertIsNot(rights_of(kind), first)
            first.append("more")
            first[0] = "other"
            self.assertEqual(rights_of(kind), rights)

    def test_kind_of(self):
        for kind, rights in KINDS.items():
            for right in rights:
                self.assertEqual(kind_of(right), kind)
                self.assertEqual(kind_of(right=right), kind)

    def test_the_order_of_the_rights(self):
        self.assertEqual([right for kind in ("role", "table", "function") for right in rights_of(kind)], RIGHTS)

    def test_rights_of_no_kind(self):
        for value in without(any_values() + ["rolE", "tables", "roles"], list(KINDS)):
            expect(self, InvalidKind, "value", value, lambda: rights_of(value))

    def test_kind_of_no_right(self):
        for value in without(any_values() + ["Act", "reads", "give", "table"], RIGHTS):
            expect(self, InvalidRight, "value", value, lambda: kind_of(value))


class SplitWordsTest(unittest.TestCase):
    def test_words(self):
        self.assertEqual(split_words("a"), ["a"])
        self.assertEqual(split_words("a b"), ["a", "b"])
        self.assertEqual(split_words("give  x".replace("  ", " ")), ["give", "x"])
        self.assertEqual(split_words("A-1 : ; ,"), ["A-1", ":", ";", ","])

    def test_texts_that_are_no_words(self):
        for text in ("", " ", "  ", " a", "a ", "a  b", "\n", "a\n", "\na", "a\nb", "a \n b", "a b\nc d"):
            self.assertIsNone(split_words(text), repr(text))

    def test_separators(self):
        self.assertEqual(split_words("a b+c", separator="+"), ["a b", "c"])
        self.assertEqual(split_words(" a +b  c", separator="+"), [" a ", "b  c"])
        self.assertEqual(split_words(" ", separator="+"), [" "])
        self.assertEqual(split_words("a b", separator="a"), None)
        self.assertEqual(split_words("bab", separator="a"), ["b", "b"])
        for separator in list(";:,.|*[(^$\\/-~!\"'x") + ["\t"]:
            self.assertEqual(split_words("1" + separator + "2 3", separator=separator), ["1", "2 3"])
            for text in (separator, "1" + separator, separator + "1", "1" + separator * 2 + "2", "1\n2", ""):
                self.assertIsNone(split_words(text, separator=separator), repr(text))

    def test_any_value(self):
        for value in [True, False] + other_values() + lists():
            self.assertIsNone(split_words(value), repr(value))
            self.assertIsNone(split_words(value, separator="+"), repr(value))

    def test_strings(self):
        for value in BAD_STRINGS + NAMES:
            words = split_words(value)
            good = value != "" and "\n" not in value and not value.startswith(" ") and not value.endswith(" ")
            self.assertEqual(words, value.split(" ") if good else None, repr(value))

    def test_long_texts(self):
        self.assertEqual(split_words("a" * 120000), ["a" * 120000])
        self.assertEqual(split_words("a " * 59999 + "bc"), ["a"] * 59999 + ["bc"])
        self.assertIsNone(split_words("a " * 60000))
        self.assertIsNone(split_words("a" * 119999 + "\n"))
        self.assertEqual(split_words("x+" * 59999 + "yz", separator="+"), ["x"] * 59999 + ["yz"])

    def test_arguments(self):
        self.assertEqual(split_words(text="a b", separator=" "), ["a", "b"])
        with self.assertRaises(TypeError):
            split_words("a+b", "+")
        first = split_words("a b")
        first.append("c")
        self.assertEqual(split_words("a b"), ["a", "b"])


if __name__ == "__main__":
    unittest.main()
