"""Mixed rules: how often the rooms send what, and the mean number of stories."""

from math import gcd

from onestory.errors import BadMixed
from onestory.shapes import is_row, multiplied, rows
from onestory.tables import need_table

SHARES = 100


def are_mixed(table, thing):
    """Whether any value is mixed rules of the table."""
    need_table(table)
    if not isinstance(thing, tuple) or len(thing) != len(table.sends):
        return False
    return all([is_mixed_rule(table, room, rule) for room, rule in enumerate(thing)])


def is_mixed_rule(table, room, thing):
    """Whether any value is a tuple with the shares for each note of the room, with one total of 1 or more."""
    if not isinstance(thing, tuple) or len(thing) != table.takes[room]:
        return False
    sizes = (SHARES,) * table.sends[room]
    if not all([is_row(told, sizes) for told in thing]):
        return False
    total = sum(thing[0])
    return total >= 1 and all([sum(told) == total for told in thing])


def need_mixed(table, mixed):
    if not are_mixed(table, mixed):
        raise BadMixed("no mixed rules of the table")


def whole(table, mixed):
    """The product of the totals of all rooms."""
    need_table(table)
    need_mixed(table, mixed)
    return multiplied([sum(rule[0]) for rule in mixed])


def shares(table, mixed):
    """The ascending dict from the sendings with a share above 0 to their shares."""
    need_table(table)
    need_mixed(table, mixed)
    found = {}
    for sent, received in zip(rows(table.sends), table.notes):
        share = multiplied([rule[note][number] for rule, note, number in zip(mixed, received, sent)])
        if share > 0:
            found[sent] = share
    return found


def mean_stories(table, mixed):
    """The sum of all shares and the whole, in least terms."""
    up = sum(list(shares(table, mixed).values()))
    down = whole(table, mixed)
    common = gcd(up, down)
    return (up // common, down // common)
