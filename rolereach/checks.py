"""Checks that several constructors share: each raises the error that belongs to its argument."""

from rolereach.errors import InvalidFlag, InvalidKind, InvalidName, InvalidRight, InvalidTaker
from rolereach.names import is_flag, is_made_kind, is_name, is_right, is_taker, kind_of


def check_name(value):
    if not is_name(value):
        raise InvalidName(value)


def check_taker(value):
    if not is_taker(value):
        raise InvalidTaker(value)


def check_taker_from(giver, value):
    # Nobody grants to himself.
    if not is_taker(value) or value == giver:
        raise InvalidTaker(value)


def check_right(value):
    if not is_right(value):
        raise InvalidRight(value)


def check_right_on(kind, value):
    # kind_of raises the same error for what is no right at all.
    if kind_of(value) != kind:
        raise InvalidRight(value)


def check_made_kind(value):
    if not is_made_kind(value):
        raise InvalidKind(value)


def check_flag(value):
    if not is_flag(value):
        raise InvalidFlag(value)


def check_option(value, taker):
    # What is granted to public never has the option.
    if not is_flag(value) or (value and taker == "public"):
        raise InvalidFlag(value)
