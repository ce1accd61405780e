"""What can be reached from a sending by steps between sendings that are near; what is passed here is not checked."""

from onestory.errors import BadSafe
from onestory.shapes import is_row
from onestory.sketches import ascends


def are_safe(table, thing):
    """Whether any value is an ascending tuple of different sendings of the table."""
    if not isinstance(thing, tuple) or not all([is_row(sent, table.sends) for sent in thing]):
        return False
    return ascends(thing)


def need_safe(table, safe):
    if not are_safe(table, safe):
        raise BadSafe("no ascending tuple of different sendings")


def steps_from(near, start):
    """The dict from each sending that steps lead to, those of fewer steps first, to the one ahead of it.

    What is near tells for each sending those to which a step leads from it.
    """
    found = {start: None}
    last = [start]
    while last:
        reached = []
        for sent in last:
            for other in near[sent]:
                if other not in found:
                    found[other] = sent
                    reached.append(other)
        last = reached
    return found


def way_to(found, goal):
    """The list of the sendings on the way to the goal, the start first; None if no steps lead there."""
    if goal not in found:
        return None
    way = [goal]
    while found[way[-1]] is not None:
        way.append(found[way[-1]])
    return way[::-1]


def shore(near, start, goal):
    """The ascending tuple of all that can be reached from the start; None if the goal can be."""
    found = steps_from(near, start)
    return None if goal in found else tuple(sorted(found))


def is_shore(table, near, start, goal, thing):
    """Whether any value is an ascending tuple of sendings with the start, not the goal, and with all that is near."""
    if not are_safe(table, thing) or not all([sent in near for sent in thing]):
        return False
    if start not in thing or goal in thing:
        return False
    return not [1 for sent in thing for other in near[sent] if other not in thing]
