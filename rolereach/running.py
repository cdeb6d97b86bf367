"""Deeds are done: each leads from a system to another one."""

from rolereach.courses import Course
from rolereach.errors import Denied, Dependents, InvalidDeed, NoGrant, NotAdmitted, NotOwner
from rolereach.grants import Default, Grant
from rolereach.standing import without
from rolereach.systems import check_system
from rolereach.things import Call, Give, Make, Preset, Take, Use


def check_deed(value):
    if not isinstance(value, (Give, Take, Call, Preset, Use, Make)):
        raise InvalidDeed(value)


def do(system, role, deed):
    check_system(system)
    system.catalog.check_role(role)
    check_deed(deed)
    if isinstance(deed, Take):
        return after_take(system, role, deed)
    if isinstance(deed, Make):
        return after_make(system, role, deed.thing)
    if isinstance(deed, Preset):
        return after_preset(system, role, deed)
    if isinstance(deed, Use):
        return after_use(system, role, deed)
    course = Course(system.catalog, system.holding)
    course.run(role, role, deed)
    return after_gifts(system, course.gifts)


def after_gifts(system, gifts):
    """The system with what a course on it gave."""
    grants = [Grant(giver, taker, right, thing, option=option) for giver, taker, right, thing, option in gifts]
    return system.with_gifts(grants)


def after_take(system, role, deed):
    system.catalog.check_spot(deed.right, deed.thing)
    system.catalog.check_taker(deed.taker)
    giver = role if deed.giver is None else deed.giver
    system.catalog.check_role(giver)
    if role != giver and role != system.owner_of(deed.thing):
        raise Denied(role, deed.right, deed.thing)
    grant = system.grant_of(giver, deed.taker, deed.right, deed.thing)
    if grant is None:
        raise NoGrant((giver, deed.taker, deed.right, deed.thing))
    after, fallen = without(system, [grant], only_option=deed.only_option)
    if len(fallen) > 0 and not deed.cascade:
        raise Dependents(fallen)
    return after


def after_make(system, role, thing):
    if thing.owner != role:
        raise NotOwner(thing.owner)
    after = system.with_thing(thing)
    defaults = [default for default in system.defaults() if default.maker == role and default.kind == thing.kind]
    for default in defaults:
        if not thing.admits(default.taker):
            raise NotAdmitted(default.taker)
    return after.with_gifts([default.grant_on(thing.name) for default in defaults])


def after_preset(system, role, deed):
    system.catalog.check_taker(deed.taker)
    # Nobody grants to himself, so there is nothing to preset.
    if deed.taker == role:
        return system
    return system.with_default(Default(role, deed.kind, deed.right, deed.taker, option=deed.option))


def after_use(system, role, deed):
    system.catalog.check_spot(deed.right, deed.thing)
    if not system.holding.has(role, deed.right, deed.thing):
        raise Denied(role, deed.right, deed.thing)
    return system
