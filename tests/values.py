"""Values of every kind, for tests that pass any value, and a check of the error that is due."""

from rolereach.access import Access
from rolereach.consoles import Console
from rolereach.errors import InvalidName
from rolereach.extents import Extent
from rolereach.grants import Default, Grant
from rolereach.plans import Step
from rolereach.servers import Server
from rolereach.systems import System
from rolereach.things import Call, Function, Give, Make, Preset, Role, Table, Take, Use

NAMES = ["a", "z", "ann", "abcdefgh", "option", "owner", "role", "inherit", "call", "by"]

BAD_STRINGS = [
    "", " ", "A", "Ann", "ann1", "1", "a b", "ann ", " ann", "ann\n", "\n", "a_b", "a-b", "{", "`",
    "abcdefghi", "a" * 200, "public ", "Public", "caller ",
]

RESERVED = ["public", "caller"]


def deeply_nested():
    value = "ann"
    for _ in range(6):
        value = [value]
    return value


def other_values():
    """Values that are not strings, and no flags, lists, tuples."""
    return [
        None, 0, 1, 2, -1, 10 ** 29, -10 ** 29, {}, {"ann": 1}, {1: ["a"], ("a", "b"): {}},
        Role("ann", "ann"), Table("pay", "ann", audience=["ann"]), Function("f", "ann"),
        Function("f", "ann", body=[Call("g")]), Give("read", "pay", "public"), Take("act", "ann", "bob"),
        Call("f"), Preset("table", "read", "ann"), Use("read", "pay"), Make(Table("pay", "ann")),
        Grant("ann", "bob", "read", "pay"), Grant("ann", "bob", "act", "ann", option=True),
        Default("ann", "table", "read", "bob"), System([]), System([Role("ann", "ann")]),
        Access(System([Role("ann", "ann")])), InvalidName("a"), Server(System([Role("ann", "ann")])),
        Server(System([Role("ann", "ann")])).session("ann"), Console(Server(System([Role("ann", "ann")]))),
        Step(["ann"], Call("f")), Extent(["zed"], {("zed", "read", "pay"): 2}),
        Extent(["ann"], {("ann", "act", "run"): 1}),
    ]


def lists():
    return [
        [], (), ["ann"], ("ann", "bob"), ["ann", "ann"], ["public"], ("caller",), [1], [True], [None],
        [["ann"]], deeply_nested(), [Grant("ann", "bob", "read", "pay")], [[], ()], [{}, None], [("ann", [])],
        ["ann", {}], list(range(2600)), [Call("f")], [Role("ann", "ann")],
        ["a", "b", "c", "d", "e", "f", "g", "h", "i"],
    ]


def any_values():
    return [True, False] + other_values() + lists() + NAMES + BAD_STRINGS + RESERVED


def without(values, allowed):
    """The values that none of the allowed ones is: of the same class and equal."""
    return [value for value in values if not any(type(value) is type(one) and value == one for one in allowed)]


def expect(case, error, field, value, action):
    """The action raises exactly this error, with the very value in its field."""
    with case.assertRaises(error) as caught:
        action()
    case.assertIs(type(caught.exception), error)
    case.assertIs(getattr(caught.exception, field), value)


def expect_first(case, action, good, bad):
    """With wrong arguments from any one on, the error of the first wrong one is due.

    `bad` has a tuple (value, error, field) for each of the good arguments.
    """
    for first in range(len(bad)):
        given = good[:first] + [value for value, _, _ in bad[first:]]
        _, error, field = bad[first]
        expect(case, error, field, given[first], lambda: action(*given))
