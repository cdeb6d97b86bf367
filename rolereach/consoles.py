"""A console: commands, written as lines, for a server."""

from rolereach.access import has, reason
from rolereach.errors import InvalidCommand, InvalidLines, InvalidText
from rolereach.names import is_list, is_name, split_words
from rolereach.plans import can_ever, first_round
from rolereach.servers import Block, check_server
from rolereach.texts import read_deed

MOST_LINES = 100

# For each word that a goal begins with, how many words follow it.
GOAL_WORDS = {"has": 3, "option": 3, "act": 1, "use": 2}


def are_names(words):
    return len(words) > 0 and all([is_name(word) for word in words])


def parse_as(words, rest):
    """The path and the deed."""
    if not are_names(words):
        return None
    try:
        return (words, read_deed(rest))
    except InvalidText:
        return None


def parse_task(words, rest):
    """The team and the goal."""
    goal = split_words(rest)
    if goal is None or GOAL_WORDS.get(goal[0]) != len(goal) - 1:
        return None
    team = [] if words == ["-"] else words
    if words != ["-"] and not are_names(words):
        return None
    return (team, tuple(goal))


def do_as(server, path, deed):
    session = server.session(path[0])
    for role in path[1:]:
        session.act_as(role)
    return "done" if session.perform(deed) else "same"


def tell_has(server, role, right, thing):
    return "yes" if has(server.system, role, right, thing) else "no"


def tell_why(server, role, right, thing):
    links = reason(server.system, role, right, thing)
    if links is None:
        return "never"
    return ", ".join([link_words(holder, held, on, grant) for holder, held, on, grant in links])


def link_words(holder, right, thing, grant):
    if grant is None:
        return f"{holder} owns {thing}"
    return f"{holder} has {right} on {thing} by {grant.giver}"


def tell_ever(server, team, goal):
    word, plan = can_ever(server.system, team, goal)
    if word == "never":
        return word
    if len(plan) == 0:
        return "now"
    return " / ".join([step_words(step) for step in plan])


def step_words(step):
    return " ".join(step.path()) + " : " + str(step.deed)


def tell_round(server, team, goal):
    number = first_round(server.system, team, goal)
    return "never" if number is None else str(number)


def do_undo(server):
    server.undo()
    return "done"


def do_redo(server):
    server.redo()
    return "done"


def tell_grants(server, thing):
    # The thing is asked for first, since an unknown one has no grants either.
    server.system.thing_of(thing)
    rows = [grant_words(grant) for grant in server.system.grants() if grant.thing == thing]
    return ", ".join(rows) if len(rows) > 0 else "none"


def grant_words(grant):
    words = f"{grant.giver} {grant.taker} {grant.right}"
    return words + " option" if grant.option else words


# The commands, in the order in which they are listed.
ACTIONS = {
    "as": do_as, "has": tell_has, "why": tell_why, "ever": tell_ever, "round": tell_round,
    "undo": do_undo, "redo": do_redo, "grants": tell_grants,
}

# How the commands with a colon are read, and how many words follow the other ones.
PARSERS = {"as": parse_as, "ever": parse_task, "round": parse_task}
WORDS_BEHIND = {"has": 3, "why": 3, "undo": 0, "redo": 0, "grants": 1}


def parts_of(line):
    """What a command is called with, or None if the line, any value, is no command."""
    words = split_words(line)
    if words is None or words[0] not in ACTIONS:
        return None
    if words[0] in PARSERS:
        # The first colon ends the names; there may be another one in the text of a deed.
        head, _, rest = line.partition(" : ")
        parser = PARSERS[words[0]]
        return parser(head.split(" ")[1:], rest)
    return words[1:] if len(words) - 1 == WORDS_BEHIND[words[0]] else None


def execute(server, line):
    parts = parts_of(line)
    if parts is None:
        raise InvalidCommand(line)
    action = ACTIONS[line.split(" ")[0]]
    return action(server, *parts)


class Console:
    """Executes commands on a server, and remembers those that succeeded."""

    def __init__(self, server):
        check_server(server)
        self._server = server
        self._lines = []

    def __call__(self, line):
        return self._run(line)

    def _run(self, line):
        answer = execute(self._server, line)
        self._lines.append(line)
        return answer

    def run_all(self, lines):
        if not is_list(lines) or len(lines) > MOST_LINES:
            raise InvalidLines(lines)
        with Block(self._server):
            return [self._run(line) for line in lines]

    def commands(self):
        return list(ACTIONS)

    def history(self):
        return list(self._lines)
