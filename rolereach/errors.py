"""The errors of rolereach: each class stands directly below one of three bases."""


class RoleError(ValueError):
    """An argument is invalid."""


class MissingError(KeyError):
    """A thing is unknown."""


class StateError(LookupError):
    """An operation is not possible now."""


class InvalidName(RoleError):
    def __init__(self, value):
        RoleError.__init__(self, "not a name")
        self.value = value


class InvalidTaker(RoleError):
    def __init__(self, value):
        RoleError.__init__(self, "not a taker, or not one that is possible here")
        self.value = value


class InvalidRight(RoleError):
    def __init__(self, value):
        RoleError.__init__(self, "not a right, or not one that is possible here")
        self.value = value


class InvalidKind(RoleError):
    def __init__(self, value):
        RoleError.__init__(self, "not a kind of things, or not one that is possible here")
        self.value = value


class InvalidFlag(RoleError):
    def __init__(self, value):
        RoleError.__init__(self, "not a flag, or not one that is possible here")
        self.value = value


class InvalidAudience(RoleError):
    def __init__(self, value):
        RoleError.__init__(self, "neither None nor a list of at most eight distinct names")
        self.value = value


class InvalidMode(RoleError):
    def __init__(self, value):
        RoleError.__init__(self, "neither owner nor caller")
        self.value = value


class InvalidBody(RoleError):
    def __init__(self, value):
        RoleError.__init__(self, "not a list of at most four deeds that give or call")
        self.value = value


class InvalidThing(RoleError):
    def __init__(self, value):
        RoleError.__init__(self, "not a thing, or not one that is possible here")
        self.value = value


class InvalidThings(RoleError):
    def __init__(self, value):
        RoleError.__init__(self, "not a list of things, or too long")
        self.value = value


class InvalidGrant(RoleError):
    def __init__(self, value):
        RoleError.__init__(self, "not a grant, or not one that is possible here")
        self.value = value


class InvalidGrants(RoleError):
    def __init__(self, value):
        RoleError.__init__(self, "not a list of grants, or too long")
        self.value = value


class InvalidDefault(RoleError):
    def __init__(self, value):
        RoleError.__init__(self, "not a default, or not one that is possible here")
        self.value = value


class InvalidDefaults(RoleError):
    def __init__(self, value):
        RoleError.__init__(self, "not a list of defaults, or too long")
        self.value = value


class InvalidStep(RoleError):
    def __init__(self, name, index):
        RoleError.__init__(self, "a deed of the body of a function is not possible")
        self.name = name
        self.index = index


class InvalidSystem(RoleError):
    def __init__(self, value):
        RoleError.__init__(self, "not a system")
        self.value = value


class InvalidDeed(RoleError):
    def __init__(self, value):
        RoleError.__init__(self, "not a deed, or not one that is possible here")
        self.value = value


class InvalidTeam(RoleError):
    def __init__(self, value):
        RoleError.__init__(self, "not a list of distinct roles of the system, or too long")
        self.value = value


class InvalidNames(RoleError):
    def __init__(self, value):
        RoleError.__init__(self, "not a list of distinct names, or not of a possible length")
        self.value = value


class InvalidLevels(RoleError):
    def __init__(self, value):
        RoleError.__init__(self, "not a dict of levels")
        self.value = value


class InvalidExtent(RoleError):
    def __init__(self, value):
        RoleError.__init__(self, "not an extent, or not one for the system")
        self.value = value


class InvalidGoal(RoleError):
    def __init__(self, value):
        RoleError.__init__(self, "not a goal for the system")
        self.value = value


class InvalidPlan(RoleError):
    def __init__(self, value):
        RoleError.__init__(self, "not a list of steps, or too long")
        self.value = value


class InvalidSession(RoleError):
    def __init__(self, value):
        RoleError.__init__(self, "not a session")
        self.value = value


class InvalidServer(RoleError):
    def __init__(self, value):
        RoleError.__init__(self, "not a server")
        self.value = value


class InvalidManager(RoleError):
    def __init__(self, value):
        RoleError.__init__(self, "neither an Acting nor a Block")
        self.value = value


class InvalidText(RoleError):
    def __init__(self, value):
        RoleError.__init__(self, "not the text of such an object")
        self.value = value


class InvalidLine(RoleError):
    def __init__(self, index):
        RoleError.__init__(self, "not a line of the text of a system")
        self.index = index


class InvalidCommand(RoleError):
    def __init__(self, value):
        RoleError.__init__(self, "not a command")
        self.value = value


class InvalidLines(RoleError):
    def __init__(self, value):
        RoleError.__init__(self, "not a list of lines, or too long")
        self.value = value


class DuplicateName(RoleError):
    def __init__(self, name):
        RoleError.__init__(self, "an earlier thing has this name")
        self.name = name


class DuplicateGrant(RoleError):
    def __init__(self, value):
        RoleError.__init__(self, "an earlier grant has the same giver, taker, right and thing")
        self.value = value


class DuplicateDefault(RoleError):
    def __init__(self, value):
        RoleError.__init__(self, "an earlier default has the same maker, kind, right and taker")
        self.value = value


class TooMany(RoleError):
    def __init__(self, count):
        RoleError.__init__(self, "more than are allowed")
        self.count = count


class TooLong(RoleError):
    def __init__(self, count):
        RoleError.__init__(self, "more steps than a function may have")
        self.count = count


class Unrooted(RoleError):
    def __init__(self, value):
        RoleError.__init__(self, "a grant that does not stand")
        self.value = value


class Mismatch(RoleError):
    def __init__(self, value):
        RoleError.__init__(self, "does not belong to what it is used with")
        self.value = value


class UnknownRole(MissingError):
    def __init__(self, name):
        MissingError.__init__(self, "no role has this name")
        self.name = name


class UnknownThing(MissingError):
    def __init__(self, name):
        MissingError.__init__(self, "no such thing has this name")
        self.name = name


class UnknownGrant(MissingError):
    def __init__(self, value):
        MissingError.__init__(self, "there is no such grant")
        self.value = value


class NameTaken(StateError):
    def __init__(self, name):
        StateError.__init__(self, "there is a thing of this name")
        self.name = name


class Denied(StateError):
    def __init__(self, role, right, thing):
        StateError.__init__(self, "the role does not have this right on the thing")
        self.role = role
        self.right = right
        self.thing = thing


class NotAdmitted(StateError):
    def __init__(self, taker):
        StateError.__init__(self, "the audience of the thing does not admit the taker")
        self.taker = taker


class NoGrant(StateError):
    def __init__(self, value):
        StateError.__init__(self, "there is no grant to revoke")
        self.value = value


class Dependents(StateError):
    def __init__(self, value):
        StateError.__init__(self, "other grants would fall")
        self.value = value


class NotOwner(StateError):
    def __init__(self, owner):
        StateError.__init__(self, "the role is not the owner of the new thing")
        self.owner = owner


class CallFailed(StateError):
    def __init__(self, function, index):
        StateError.__init__(self, "a deed of the body of the function failed")
        self.function = function
        self.index = index


class PlanFailed(StateError):
    def __init__(self, index):
        StateError.__init__(self, "a step of the plan is not possible")
        self.index = index


class AtLogin(StateError):
    def __init__(self):
        StateError.__init__(self, "only the login is left")


class InBlock(StateError):
    def __init__(self):
        StateError.__init__(self, "not possible within a block")


class NothingToUndo(StateError):
    def __init__(self):
        StateError.__init__(self, "there is no change to undo")


class NothingToRedo(StateError):
    def __init__(self):
        StateError.__init__(self, "there is no change to redo")
