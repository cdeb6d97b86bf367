"""Servers, the sessions that change their systems, and blocks of deeds that succeed or fail as a whole."""

from rolereach.access import has
from rolereach.errors import AtLogin, Denied, InBlock, InvalidManager, InvalidServer, InvalidSession
from rolereach.errors import MissingError, NothingToRedo, NothingToUndo, RoleError, StateError
from rolereach.running import check_deed, do
from rolereach.systems import check_system


class Server:
    """A system that sessions change, with what was performed and what can be undone."""

    def __init__(self, system):
        check_system(system)
        self.system = system
        # How many blocks are open.
        self.depth = 0
        # The system after the last change, and the systems that undo and redo lead to, the next one last.
        self._settled = system
        self._before = []
        self._behind = []
        self._entries = []

    def session(self, login):
        self.system.catalog.check_role(login)
        return Session(self, login)

    def settle(self):
        """Takes note of the last change, if no block is open.

        The end of a block must not compare systems, so whoever asks or changes next does it.
        """
        if self.depth == 0 and self.system != self._settled:
            self._before.append(self._settled)
            self._behind = []
            self._settled = self.system

    def carry_out(self, login, role, deed):
        """Does a deed for a session, writes it into the log, and tells whether the system changed."""
        self.settle()
        try:
            after = do(self.system, role, deed)
        except (RoleError, MissingError, StateError) as error:
            self._entries.append((login, role, str(deed), class_name(error)))
            raise
        changed = after != self.system
        self.system = after
        self._entries.append((login, role, str(deed), "done" if changed else "same"))
        return changed

    def log(self):
        return list(self._entries)

    def undo(self):
        self._check_no_block()
        if len(self._before) == 0:
            raise NothingToUndo()
        self._behind.append(self.system)
        self._go_to(self._before.pop())

    def redo(self):
        self._check_no_block()
        if len(self._behind) == 0:
            raise NothingToRedo()
        self._before.append(self.system)
        self._go_to(self._behind.pop())

    def _check_no_block(self):
        if self.depth > 0:
            raise InBlock()
        self.settle()

    def _go_to(self, system):
        self.system = system
        self._settled = system

    def changes(self):
        self.settle()
        return len(self._before)


class Session:
    """What a role does on a server, as itself and as the roles that it acts as."""

    def __init__(self, server, login):
        self.login = login
        self.role = login
        self.trail = [login]
        self._server = server

    def path(self):
        return list(self.trail)

    def act_as(self, role):
        system = self._server.system
        system.catalog.check_role(role)
        if not has(system, self.role, "act", role):
            raise Denied(self.role, "act", role)
        # A new list, so that an Acting may keep the former one.
        self.trail = self.trail + [role]
        self.role = role

    def leave(self):
        if len(self.trail) == 1:
            raise AtLogin()
        self.trail = self.trail[:-1]
        self.role = self.trail[-1]

    def perform(self, deed):
        check_deed(deed)
        return self._server.carry_out(self.login, self.role, deed)


class Acting:
    """For a block in which a session acts as a role."""

    def __init__(self, session, role):
        if not isinstance(session, Session):
            raise InvalidSession(session)
        self._session = session
        self._as_role = role
        self._trail = None
        self._role = None

    def __enter__(self):
        session = self._session
        trail = session.trail
        role = session.role
        session.act_as(self._as_role)
        self._trail = trail
        self._role = role
        return session

    def __exit__(self, kind, value, trace):
        session = self._session
        session.trail = self._trail
        session.role = self._role


class Block:
    """For a block of deeds on a server that succeeds or fails as a whole."""

    def __init__(self, server):
        check_server(server)
        self._server = server
        self._system = None
        self._depth = 0

    def __enter__(self):
        server = self._server
        server.settle()
        self._system = server.system
        self._depth = server.depth
        server.depth = server.depth + 1
        return server

    def __exit__(self, kind, value, trace):
        server = self._server
        if kind is not None:
            server.system = self._system
        server.depth = self._depth


def within(manager, action):
    if not isinstance(manager, (Acting, Block)):
        raise InvalidManager(manager)
    with manager as same:
        return action(same)


def check_server(value):
    if not isinstance(value, Server):
        raise InvalidServer(value)


def class_name(value):
    return value.__class__.__name__
