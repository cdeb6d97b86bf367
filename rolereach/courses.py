"""Gifts and calls, done one after the other: the deeds that only add to what is held."""

from rolereach.errors import CallFailed, Denied, MissingError, NotAdmitted, RoleError, StateError, UnknownThing
from rolereach.things import Call


class Course:
    """What is held while deeds are done, and what these deeds give.

    A course in which a deed raised an error is given up: what was given before is not taken back.
    """

    def __init__(self, catalog, holding):
        self.catalog = catalog
        self.holding = holding.copied()
        # Tuples (giver, taker, right, thing, option), oldest first.
        self.gifts = []

    def run(self, role, caller, deed):
        """Does a deed of a role; `caller` is the role for which the word in the deed stands."""
        if isinstance(deed, Call):
            self.call(role, deed.function)
        else:
            self.give(role, caller, deed)

    def give(self, role, caller, deed):
        taker = caller if deed.taker == "caller" else deed.taker
        self.catalog.check_spot(deed.right, deed.thing)
        self.catalog.check_taker(taker)
        if not self.holding.holds_with_option(role, deed.right, deed.thing):
            raise Denied(role, deed.right, deed.thing)
        roster = self.catalog.roster
        bit = roster.bit_of(taker)
        if roster.admitted[deed.thing] & bit == 0:
            raise NotAdmitted(taker)
        if taker != role:
            self.holding.receive((deed.right, deed.thing), bit, deed.option)
            self.gifts.append((role, taker, deed.right, deed.thing, deed.option))

    def call(self, role, name):
        if not self.catalog.is_function(name):
            raise UnknownThing(name)
        if not self.holding.has(role, "call", name):
            raise Denied(role, "call", name)
        function = self.catalog.thing_of(name)
        actor = function.owner if function.mode == "owner" else role
        for index, deed in enumerate(function.body()):
            try:
                self.run(actor, role, deed)
            except (RoleError, MissingError, StateError) as error:
                raise CallFailed(name, index) from error
