"""Fixed orders, in which each room hears only rooms ahead of it, and rings, in which rooms hear each other in turn."""

from itertools import permutations

from onestory.clocks import hears
from onestory.errors import BadRing
from onestory.shapes import is_row, put_in
from onestory.smaller import hearing_pair
from onestory.tables import brought, need_table


def fixed_order(table):
    """The least tuple of all rooms in which each room hears only rooms ahead of it; None if there is none."""
    told_by = heard_rooms(table)
    order = []
    while len(order) < len(told_by):
        ready = [room for room, others in enumerate(told_by) if room not in order and all_in(others, order)]
        if not ready:
            return None
        # A room that may come next may do so later as well, so the least one spoils nothing.
        order.append(ready[0])
    return tuple(order)


def heard_rooms(table):
    """For each room the list of the rooms that it hears."""
    pairs = hears(table)
    return [[speaker for speaker, hearer in pairs if hearer == room] for room in range(len(table.sends))]


def all_in(rooms, others):
    return all([room in others for room in rooms])


def is_fixed_order(table, thing):
    """Whether any value is a tuple of all rooms in which each room hears only rooms ahead of it."""
    told_by = heard_rooms(table)
    if not is_row(thing, (len(told_by),) * len(told_by)) or sorted(thing) != list(range(len(told_by))):
        return False
    return all([all_in(told_by[room], thing[:at]) for at, room in enumerate(thing)])


def rings(table):
    """The list of all rings, the shorter ones first, then ascending."""
    told_by = heard_rooms(table)
    many = len(told_by)
    found = []
    for size in range(1, many + 1):
        found = found + [ring for ring in permutations(range(many), size) if goes_round(told_by, ring)]
    return found


def goes_round(told_by, rooms):
    """Whether different rooms are a ring: the least first, each one hearing the one ahead, the first the last one."""
    if rooms[0] != min(rooms):
        return False
    return all([ahead in told_by[room] for ahead, room in zip(rooms[-1:] + rooms[:-1], rooms)])


def lone_rings(table):
    """The rings of which no two rooms hear the same room, as they come among all rings."""
    told_by = heard_rooms(table)
    return [ring for ring in rings(table) if is_lone(told_by, ring)]


def is_lone(told_by, ring):
    """Whether no room is heard by two different rooms of the ring."""
    heard = [other for room in ring for other in told_by[room]]
    return len(heard) == len(set(heard))


def need_lone(table, ring):
    need_table(table)
    if not isinstance(ring, tuple) or not is_row(ring, (len(table.sends),) * len(ring)):
        raise BadRing("no tuple of rooms")
    if ring not in lone_rings(table):
        raise BadRing("no lone ring of the table")


def ring_two(table, ring):
    """Rules with just two stories, which differ in the rooms of the ring alone."""
    need_lone(table, ring)
    here, there = two_ways(table, ring)
    return (ring_rules(table, ring, here, there, 0), here, there)


def ring_none(table, ring):
    """Rules without a story, by which the rooms that are not in the ring send the same for all notes."""
    need_lone(table, ring)
    here, there = two_ways(table, ring)
    return ring_rules(table, ring, here, there, 1)


def two_ways(table, ring):
    """Two sendings that differ in just the rooms of the ring, each of which hears the difference ahead of it.

    The first one is the lesser.
    """
    ahead = ring[-1:] + ring[:-1]
    pairs = [hearing_pair(table, speaker, room) for speaker, room in zip(ahead, ring)]
    told_by = heard_rooms(table)
    here = (0,) * len(table.sends)
    # No room is heard by two of the ring, so each of these may have what it hears sent as it needs it.
    for room, (one, _) in zip(ring, pairs):
        for other in told_by[room]:
            here = put_in(here, other, one[other])
    there = here
    for speaker, (_, other) in zip(ahead, pairs):
        there = put_in(there, speaker, other[speaker])
    return (here, there)


def ring_rules(table, ring, here, there, turned):
    """Rules by which the rooms of the ring all send as here or all as there, the others always as in both.

    The first so many rooms of the ring send the opposite.
    """
    rules = [(here[room],) * taken for room, taken in enumerate(table.takes)]
    received = brought(table, here)
    for at, room in enumerate(ring):
        usual, else_sent = (here[room], there[room]) if at >= turned else (there[room], here[room])
        rule = (else_sent,) * table.takes[room]
        rules[room] = put_in(rule, received[room], usual)
    return tuple(rules)
