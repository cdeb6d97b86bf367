"""Shortest ways from owners to takers."""


def walk(starts, following):
    """For each role that can be reached, the role before it on a shortest way, None for a start.

    `following` tells for a role the ones that come next. The nearest roles are the first keys.
    """
    before = {start: None for start in starts}
    queue = list(starts)
    at = 0
    while at < len(queue):
        role = queue[at]
        for other in following.get(role, ()):
            if other not in before:
                before[other] = role
                queue.append(other)
        at += 1
    return before


def way_to(before, role):
    """The way that a walk found to a role, from its start on."""
    way = [role]
    while before[way[0]] is not None:
        way = [before[way[0]]] + way
    return way
