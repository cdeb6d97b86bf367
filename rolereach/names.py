"""Names, takers, rights and the words of a text."""

from rolereach.errors import InvalidKind, InvalidRight

LONGEST_NAME = 8

# "public" and "caller" stand where names stand, so no thing may be called so.
RESERVED = ("public", "caller")

# The order of the rights.
RIGHTS = ("inherit", "act", "read", "write", "call")

RIGHTS_BY_KIND = {
    "role": ("inherit", "act"),
    "table": ("read", "write"),
    "function": ("call",),
}

KIND_BY_RIGHT = {
    "inherit": "role",
    "act": "role",
    "read": "table",
    "write": "table",
    "call": "function",
}

# Roles are never made by a deed.
MADE_KINDS = ("table", "function")


def is_name(value):
    if not isinstance(value, str) or not 1 <= len(value) <= LONGEST_NAME:
        return False
    # Without isascii, letters of other alphabets would count, too.
    return value.isascii() and value.isalpha() and value.islower() and value not in RESERVED


def is_taker(value):
    return is_name(value) or value == "public"


def is_right(value):
    # Only strings are looked up: a list cannot be the key of a dict.
    return isinstance(value, str) and value in KIND_BY_RIGHT


def is_kind(value):
    return isinstance(value, str) and value in RIGHTS_BY_KIND


def is_made_kind(value):
    return value in MADE_KINDS


def is_flag(value):
    # By identity, since 1 and 0 are equal to True and False.
    return value is True or value is False


def is_list(value):
    return isinstance(value, (list, tuple))


def is_number(value):
    # True and False are integers for Python, but not here.
    return isinstance(value, int) and not is_flag(value)


def is_names(value, most):
    if not is_list(value) or len(value) > most:
        return False
    return all([is_name(item) for item in value]) and len(set(value)) == len(value)


def rights_of(kind):
    if not is_kind(kind):
        raise InvalidKind(kind)
    return list(RIGHTS_BY_KIND[kind])


def kind_of(right):
    if not is_right(right):
        raise InvalidRight(right)
    return KIND_BY_RIGHT[right]


def split_words(text, *, separator=" "):
    if not isinstance(text, str) or "\n" in text:
        return None
    words = text.split(separator)
    # Two separators side by side, or one at an end, leave an empty word.
    if "" in words:
        return None
    return words
