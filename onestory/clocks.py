"""Clocks and knots: either some room is first, then some other one, and so on, or the rooms can be held so that
none is first."""

from onestory.errors import BadHeld
from onestory.shapes import is_below, rows
from onestory.smaller import hearing_pair
from onestory.tables import need_table


def hears(table):
    """The ascending list of all pairs (a, b) such that room b hears room a."""
    need_table(table)
    rooms = range(len(table.sends))
    return [(speaker, hearer) for speaker in rooms for hearer in rooms
            if hearing_pair(table, speaker, hearer) is not None]


def is_held(table, thing):
    """Whether any value is a dict from rooms to numbers that they can send."""
    if not isinstance(thing, dict):
        return False
    return all([is_below(room, len(table.sends)) and is_below(sent, table.sends[room]) for room, sent in thing.items()])


def all_lines(table):
    """The list of all sendings, each with its delivery."""
    return list(zip(rows(table.sends), table.notes))


def lines_with(lines, room, number):
    """Those of the lines in which the room sends this number."""
    return [line for line in lines if line[0][room] == number]


def first_with(lines, room):
    """Whether the room receives the same in all lines."""
    note = lines[0][1][room]
    return all([received[room] == note for _, received in lines])


def left_with(table, held):
    """The ascending list of the rooms that are left."""
    return [room for room in range(len(table.sends)) if room not in held]


def firsts(table, held):
    """The ascending list of the left rooms that are first; what is passed is not checked."""
    lines = all_lines(table)
    for room, number in held.items():
        lines = lines_with(lines, room, number)
    return [room for room in left_with(table, held) if first_with(lines, room)]


def first_rooms(table, held):
    """The ascending list of the left rooms that receive the same in all sendings that agree with held."""
    need_table(table)
    if not is_held(table, held):
        raise BadHeld("no dict from rooms to numbers that they can send")
    return firsts(table, held)


def clock(table):
    """The clock in which the least first room comes each time, None if there is no clock."""
    need_table(table)
    return clock_of(table, all_lines(table), left_with(table, {}))


def clock_of(table, lines, left):
    """The clock for the rooms that are left, by the lines that agree with what is held; None if there is none."""
    if not left:
        return ("done",)
    # Any first room will do: a first one stays first when more is held, so no choice spoils a clock.
    ready = [room for room in left if first_with(lines, room)]
    if not ready:
        return None
    room = ready[0]
    rest = [other for other in left if other != room]
    trees = []
    for number in range(table.sends[room]):
        tree = clock_of(table, lines_with(lines, room, number), rest)
        if tree is None:
            return None
        trees.append(tree)
    return ("first", room, lines[0][1][room], tuple(trees))


def is_clock(table, thing):
    """Whether any value is a clock of the table."""
    need_table(table)
    return is_clock_of(table, all_lines(table), left_with(table, {}), thing)


def is_clock_of(table, lines, left, thing):
    """Whether any value is a clock for the rooms that are left, by the lines that agree with what is held."""
    if not isinstance(thing, tuple):
        return False
    if not left:
        return thing == ("done",)
    if len(thing) != 4 or thing[0] != "first":
        return False
    room, note, trees = thing[1:]
    if not is_below(room, len(table.sends)) or room not in left or not first_with(lines, room):
        return False
    if not is_below(note, table.takes[room]) or note != lines[0][1][room]:
        return False
    if not isinstance(trees, tuple) or len(trees) != table.sends[room]:
        return False
    rest = [other for other in left if other != room]
    return all([is_clock_of(table, lines_with(lines, room, number), rest, tree) for number, tree in enumerate(trees)])


def knots(table):
    """The list of all knots, those that name fewer rooms first, then by their pairs of room and number."""
    need_table(table)
    # In a row 0 stands for a room that is left, and a number above it for one that is held at one less.
    ways = [held_by(row) for row in rows(tuple([size + 1 for size in table.sends]))]
    found = sorted([(len(held), list(held.items())) for held in ways if is_tied(table, held)])
    return [dict(pairs) for _, pairs in found]


def held_by(row):
    return {room: number - 1 for room, number in enumerate(row) if number > 0}


def is_tied(table, held):
    """Whether at least one room is left, and no left room is first; what is passed is not checked."""
    return len(held) < len(table.sends) and not firsts(table, held)


def knot(table):
    """The first knot, None if there is none."""
    found = knots(table)
    return found[0] if found else None


def is_knot(table, thing):
    """Whether any value is a knot of the table."""
    need_table(table)
    return is_held(table, thing) and is_tied(table, thing)
