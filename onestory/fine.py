"""Fine tables: each two unlike sendings have a room that sends otherwise and receives the same."""

from itertools import combinations

from onestory.errors import NotFine
from onestory.shapes import is_below, is_row, rows
from onestory.tables import brought, need_same_sizes, need_sending, need_table


def least_parting(one, other, here, there):
    """The least room that parts two sendings, which bring what is here and what is there; None if none does."""
    for room, note in enumerate(here):
        if one[room] != other[room] and note == there[room]:
            return room
    return None


def need_fine(table):
    if first_pair(table) is not None:
        raise NotFine("the table is not fine")


def need_two_fine(one, other):
    # need_fine refuses what is no Table as well, so all that is wrong with one comes ahead of other.
    need_fine(one)
    need_fine(other)
    need_same_sizes(one, other)


def part(table, one, other):
    """The least room that parts the two sendings, None if there is none."""
    need_table(table)
    need_sending(table, one)
    need_sending(table, other)
    return least_parting(one, other, brought(table, one), brought(table, other))


def is_fine(table):
    """Whether each two unlike sendings are parted by some room."""
    return first_pair(table) is None


def first_pair(table):
    """The first pair of sendings that no room parts, None if there is none."""
    need_table(table)
    lines = list(zip(rows(table.sends), table.notes))
    for (one, here), (other, there) in combinations(lines, 2):
        if least_parting(one, other, here, there) is None:
            return (one, other)
    return None


def unparted(table):
    """The ascending list of all pairs of sendings that no room parts."""
    need_table(table)
    parts = all_parts(table)
    return [pair for pair, room in parts.items() if room is None]


def paper(table):
    """The ascending dict from all pairs of sendings to the least room that parts them; None if some are not parted."""
    need_table(table)
    parts = all_parts(table)
    if None in list(parts.values()):
        return None
    return parts


def all_parts(table):
    """The ascending dict from all pairs of sendings to the least room that parts them, None where there is none."""
    lines = list(zip(rows(table.sends), table.notes))
    return {(one, other): least_parting(one, other, here, there)
            for (one, here), (other, there) in combinations(lines, 2)}


def is_paper(table, thing):
    """Whether any value is a dict from all pairs of sendings to a room that parts them."""
    need_table(table)
    if not isinstance(thing, dict):
        return False
    # Different pairs that are each one of the table's are all of them if they are as many.
    if len(thing) != len(table.notes) * (len(table.notes) - 1) // 2:
        return False
    return all([is_pair(table, key) and parts_pair(table, key, room) for key, room in thing.items()])


def is_pair(table, thing):
    """Whether any value is a pair of sendings, the lesser one first."""
    if not isinstance(thing, tuple) or len(thing) != 2:
        return False
    one, other = thing
    return is_row(one, table.sends) and is_row(other, table.sends) and one < other


def parts_pair(table, pair, thing):
    """Whether any value is a room that parts the pair of sendings."""
    if not is_below(thing, len(table.sends)):
        return False
    one, other = pair
    return one[thing] != other[thing] and brought(table, one)[thing] == brought(table, other)[thing]
