"""Which deeds led to a goal: from the rounds in which it was reached, back to the beginning.

A fact is a tuple (taker, right, thing, level): this taker has at least this level.
"""

from rolereach.courses import Course
from rolereach.things import Call, Give
from rolereach.walks import way_to


class Tracer:
    """Collects the moves that a goal needs: tuples (path, deed), and for each one the round in which it is made."""

    def __init__(self, rounds, team):
        self._rounds = rounds
        self._team = team
        self._wanted = []
        self._known = {}
        self._moves = {}

    def moves(self, goal):
        self._want_goal(goal)
        at = 0
        # What serves one fact wants further facts, of earlier rounds.
        while at < len(self._wanted):
            self._serve(self._wanted[at])
            at += 1
        return [(path, deed) for number in range(len(self._rounds.scopes))
                for path, deed, when in self._moves.values() if when == number]

    def _want_goal(self, goal):
        last = len(self._rounds.scopes) - 1
        word = goal[0]
        if word == "has":
            self._want_right(last, self._holding(last), goal[1], goal[2], goal[3])
        elif word == "option":
            self._want_option(last, goal[1], goal[2], goal[3])
        elif word == "act":
            self._want_path(last, goal[1])
        else:
            scope = self._rounds.last()
            role = scope.holding.roster.roles_in(scope.mask & scope.holding.having((goal[1], goal[2])))[0]
            self._want_path(last, role)
            self._want_right(last, scope.holding, role, goal[1], goal[2])

    def _holding(self, number):
        return self._rounds.scopes[number].holding

    def _first_round(self, fact):
        """The number of the first scope with a fact."""
        number = 0
        while not has_fact(self._holding(number), fact):
            number += 1
        return number

    def _want(self, number, fact):
        """Wants a fact that is needed at the scope of this number, unless it is the body of a call that gives it."""
        if has_fact(self._holding(number), fact) and fact not in self._known:
            self._known[fact] = True
            self._wanted.append((self._first_round(fact), fact))

    def _want_hold(self, number, holding, role, right, thing):
        spot = (right, thing)
        if holding.roster.owners[thing] == holding.roster.bits[role]:
            return
        taker = "public" if holding.held[spot] & holding.roster.bits[role] == 0 else role
        self._want(number, (taker, right, thing, 1))

    def _want_option(self, number, role, right, thing):
        roster = self._holding(number).roster
        if roster.owners[thing] != roster.bits[role]:
            self._want(number, (role, right, thing, 2))

    def _want_right(self, number, holding, role, right, thing):
        """Wants what makes a role have a right: `holding` is that of the scope, or of a body that goes on from it."""
        before = holding.ways_of_inheriting(role)
        way = way_to(before, [other for other in before if holding.holds(other, right, thing)][0])
        for heir, other in zip(way, way[1:]):
            self._want_hold(number, holding, heir, "inherit", other)
        self._want_hold(number, holding, way[-1], right, thing)

    def _want_path(self, number, role):
        holding = self._holding(number)
        path = way_to(holding.ways_of_acting(self._team), role)
        for one, other in zip(path, path[1:]):
            self._want_right(number, holding, one, "act", other)
        return path

    def _serve(self, wanted):
        number, fact = wanted
        if number == 0:
            return
        role = self._giver_of(number - 1, fact)
        if role is None:
            self._serve_by_call(number, fact)
            return
        taker, right, thing, level = fact
        path = self._want_path(number - 1, role)
        self._want_option(number - 1, role, right, thing)
        self._moves[fact] = (path, Give(right, thing, taker, option=level == 2), number)

    def _giver_of(self, number, fact):
        """A role that can give this by itself at a scope, or None."""
        taker, right, thing, _ = fact
        scope = self._rounds.scopes[number]
        roster = scope.holding.roster
        # The audience admits the taker, since somehow he came to have it.
        givers = roster.roles_in(scope.mask & scope.holding.keepers((right, thing)) & ~roster.bit_of(taker))
        return givers[0] if len(givers) > 0 else None

    def _serve_by_call(self, number, fact):
        name, role = [(name, role) for name, role, gifts in self._rounds.calls[number] if gives(gifts, fact)][0]
        path = self._want_path(number - 1, role)
        self._moves[(name, role)] = (path, Call(name), number)
        self._want_call(number - 1, Course(self._rounds.catalog, self._holding(number - 1)), role, name)

    def _want_call(self, number, course, role, name):
        """Wants what a call needs that is made in a course."""
        self._want_right(number, course.holding, role, "call", name)
        function = course.catalog.thing_of(name)
        actor = function.owner if function.mode == "owner" else role
        for deed in function.body():
            if isinstance(deed, Call):
                self._want_call(number, course, actor, deed.function)
            else:
                self._want_option(number, actor, deed.right, deed.thing)
                course.give(actor, role, deed)


def has_fact(holding, fact):
    taker, right, thing, level = fact
    masks = holding.optioned if level == 2 else holding.held
    return masks[(right, thing)] & holding.roster.bit_of(taker) != 0


def gives(gifts, fact):
    taker, right, thing, level = fact
    return any([gift[1:4] == (taker, right, thing) and (gift[4] or level == 1) for gift in gifts])
