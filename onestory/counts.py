"""How many stories the rules of a table have, and how far sendings are from their answers."""

from itertools import combinations

from onestory.errors import TooMany
from onestory.shapes import rows
from onestory.stories import all_rules, need_rules, replies
from onestory.tables import brought, need_sending, need_table

MOST_RULES = 20000


def story_counts(table):
    """The ascending dict from each number of stories that some rules have to how many rules have so many."""
    need_table(table)
    if all_rules(table) > MOST_RULES:
        raise TooMany(MOST_RULES)
    # A set of sendings is a number here: the bit at an index tells whether the sending there is in it.
    agreeing = {(1 << len(table.notes)) - 1: 1}
    for room in range(len(table.sends)):
        agreeing = met(agreeing, agreeing_by_rule(table, room))
    counted = {}
    for bits, many in agreeing.items():
        number = members(bits)
        counted[number] = counted.get(number, 0) + many
    return {number: counted[number] for number in sorted(counted)}


def agreeing_by_rule(table, room):
    """The dict from the sets of sendings that agree with a rule of the room to how many rules have this set."""
    bits_of = {}
    for at, sent in enumerate(rows(table.sends)):
        key = (table.notes[at][room], sent[room])
        bits_of[key] = bits_of.get(key, 0) + (1 << at)
    found = {0: 1}
    for note in range(table.takes[room]):
        choices = [bits_of.get((note, number), 0) for number in range(table.sends[room])]
        found = added(found, choices)
    return found


def added(sets, choices):
    """Each of the sets with each of the choices in addition, counted; no choice has a member of the set."""
    found = {}
    for bits, many in sets.items():
        for more in choices:
            found[bits + more] = found.get(bits + more, 0) + many
    return found


def met(sets, others):
    """What each of the sets has in common with each of the others, counted."""
    found = {}
    for bits, many in sets.items():
        for more, times in others.items():
            found[bits & more] = found.get(bits & more, 0) + many * times
    return found


def members(bits):
    """How many members the set has."""
    many = 0
    while bits:
        bits = bits & (bits - 1)
        many += 1
    return many


def difference(table, rules, sending):
    """What each room sends in the sending less what it sends in its answer, modulo its sends."""
    need_table(table)
    need_rules(table, rules)
    need_sending(table, sending)
    return less(table, sending, replies(rules, brought(table, sending)))


def less(table, sent, answered):
    return tuple([(one - other) % size for one, other, size in zip(sent, answered, table.sends)])


def differences(table, rules):
    """The list of the differences of all sendings, in their order."""
    need_table(table)
    need_rules(table, rules)
    return [less(table, sent, replies(rules, received)) for sent, received in zip(rows(table.sends), table.notes)]


def first_clash(table, rules):
    """The first pair of sendings that have the same difference, None if there is none."""
    lines = list(zip(differences(table, rules), rows(table.sends)))
    for (here, one), (there, other) in combinations(lines, 2):
        if here == there:
            return (one, other)
    return None
