"""Texts of deeds, things and systems, written and read back.

Words are read generously, and what they give counts only if its own text is the one that was read.
Missing words are read as empty ones.
"""

from rolereach.errors import InvalidLine, InvalidText, RoleError
from rolereach.grants import Default, Grant
from rolereach.names import split_words
from rolereach.systems import System, check_system, check_thing
from rolereach.things import Call, Deed, Function, Give, Make, Preset, Role, Table, Take, Thing, Use


def behind_first(words, count):
    return (words[1:] + [""] * count)[:count]


def give_of(words):
    right, thing, taker = behind_first(words, 3)
    return Give(right, thing, taker, option="option" in words[4:])


def take_of(words):
    right, thing, taker = behind_first(words, 3)
    rest = words[4:]
    giver = None
    # A role may be called option or cascade, so its name is put aside first.
    if len(rest) > 1 and rest[0] == "by":
        giver = rest[1]
        rest = rest[2:]
    return Take(right, thing, taker, giver=giver, only_option="option" in rest, cascade="cascade" in rest)


def call_of(words):
    return Call(behind_first(words, 1)[0])


def preset_of(words):
    kind, right, taker = behind_first(words, 3)
    return Preset(kind, right, taker, option="option" in words[4:])


def use_of(words):
    right, thing = behind_first(words, 2)
    return Use(right, thing)


def make_of(words):
    return Make(read_from(words[1:], ("table", "function")))


def role_of(words):
    name, owner = behind_first(words, 2)
    return Role(name, owner, audience=audience_in(words[3:]))


def table_of(words):
    name, owner = behind_first(words, 2)
    return Table(name, owner, audience=audience_in(words[3:]))


def function_of(words):
    head = words[:words.index(":")] if ":" in words else words
    name, owner, mode = behind_first(head, 3)
    body = [read_from(part, ("give", "call")) for part in parts_of(words[len(head) + 1:])]
    return Function(name, owner, audience=audience_in(head[4:]), mode=mode, body=body)


def grant_of(words):
    giver, taker, right, thing = behind_first(words, 4)
    return Grant(giver, taker, right, thing, option="option" in words[5:])


def default_of(words):
    maker, kind, right, taker = behind_first(words, 4)
    return Default(maker, kind, right, taker, option="option" in words[5:])


def audience_in(words):
    return words[1:] if words[:1] == ["audience"] else None


def parts_of(words):
    """The words between the semicolons; where there are no words, there is no part."""
    parts = [[]] if len(words) > 0 else []
    for word in words:
        if word == ";":
            parts.append([])
        else:
            parts[-1].append(word)
    return parts


READERS = {
    "give": give_of, "take": take_of, "call": call_of, "preset": preset_of, "use": use_of, "make": make_of,
    "role": role_of, "table": table_of, "function": function_of, "grant": grant_of, "default": default_of,
}

DEEDS = ("give", "take", "call", "preset", "use", "make")
THINGS = ("role", "table", "function")
LINES = ("role", "table", "function", "grant", "default")


def read_from(words, allowed):
    """What words of an allowed kind give, or None if they give nothing.

    Only some words are allowed within others, so that texts that go deeper and deeper end at once.
    """
    if len(words) == 0 or words[0] not in allowed:
        return None
    reader = READERS[words[0]]
    try:
        return reader(words)
    except RoleError:
        return None


def read_text(text, allowed):
    """What an allowed text, any value, is the text of, or None."""
    words = split_words(text)
    if words is None:
        return None
    found = read_from(words, allowed)
    if found is None or text_of(found) != text:
        return None
    return found


def text_of(item):
    if isinstance(item, (Deed, Thing)):
        return str(item)
    if isinstance(item, Grant):
        return " ".join(["grant", item.giver, item.taker, item.right, item.thing] + option_words(item))
    return " ".join(["default", item.maker, item.kind, item.right, item.taker] + option_words(item))


def option_words(item):
    return ["option"] if item.option else []


def read_deed(text):
    deed = read_text(text, DEEDS)
    if deed is None:
        raise InvalidText(text)
    return deed


def thing_text(thing):
    check_thing(thing)
    return text_of(thing)


def read_thing(text):
    thing = read_text(text, THINGS)
    if thing is None:
        raise InvalidText(text)
    return thing


def system_text(system):
    check_system(system)
    return "\n".join([text_of(item) for item in system.things() + system.grants() + system.defaults()])


def place_of(item):
    """Things come before grants, and grants before defaults."""
    if isinstance(item, Thing):
        return 0
    return 1 if isinstance(item, Grant) else 2


def read_system(text):
    if not isinstance(text, str):
        raise InvalidLine(0)
    # The empty text has no line, not an empty one.
    lines = text.split("\n") if text != "" else []
    parts = [[], [], []]
    last = 0
    for number, line in enumerate(lines, start=1):
        item = read_text(line, LINES)
        if item is None or place_of(item) < last:
            raise InvalidLine(number)
        last = place_of(item)
        parts[last].append(item)
    things, grants, defaults = parts
    return System(things, grants, defaults)
