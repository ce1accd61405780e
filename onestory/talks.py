"""Pairs of rooms: which of the two hears the other one, whatever the rest does."""

from itertools import combinations

from onestory.closings import closed_in_turn, is_known
from onestory.errors import BadKnown, BadRoom, BadTalk, HearsItself
from onestory.fine import first_pair, is_pair, need_fine
from onestory.shapes import rows
from onestory.smaller import hearing_pair, hears_itself, keeping_rule
from onestory.stories import need_rules
from onestory.tables import brought, need_room, need_table


def need_pair(table, one, other):
    need_room(table, one)
    need_room(table, other)
    if other <= one:
        raise BadRoom("the other room is not greater than the one")


def further(table, one, other):
    """The ascending list of all rooms but these two."""
    return [room for room in range(len(table.sends)) if room not in (one, other)]


def is_known_further(table, one, other, thing):
    """Whether any value is a dict from just all further rooms to rules of these."""
    return is_known(table, thing) and sorted(thing) == further(table, one, other)


def left_pair(table, one, other, known):
    """The Table of the two rooms that are left when the further ones are closed, the least first."""
    rooms = further(table, one, other)
    return ([table] + closed_in_turn(table, known, rooms))[-1]


def hearings(pair):
    """Whether in a table of two rooms the first one hears the second one, and the second one the first."""
    return (hearing_pair(pair, 1, 0) is not None, hearing_pair(pair, 0, 1) is not None)


def pair_table(table, one, other, known):
    """The Table of the two rooms that are left when the further ones are closed, the least first."""
    need_table(table)
    need_pair(table, one, other)
    if not is_known_further(table, one, other, known):
        raise BadKnown("no dict from just all further rooms to rules of these")
    return left_pair(table, one, other, known)


def hearing(table, one, other, known):
    """Whether in the pair_table one hears the other room, and whether the other room hears one."""
    return hearings(pair_table(table, one, other, known))


def bad_pair(table, one, other):
    """Rules of all further rooms by which the two rooms show that the table is not fine; None if it is."""
    need_table(table)
    need_pair(table, one, other)
    unparted_pair = first_pair(table)
    if unparted_pair is None:
        return None
    # By rules that keep two unparted sendings, all closings keep them unlike and unparted: so a room hears itself
    # on the way, or in the end one of the two does, or each hears the other.
    here, there = unparted_pair
    return {room: keeping_rule(table, room, here, there) for room in further(table, one, other)}


def is_bad_pair(table, one, other, thing):
    """Whether any value is rules of all further rooms by which the two rooms show that the table is not fine."""
    need_table(table)
    need_pair(table, one, other)
    if not is_known_further(table, one, other, thing):
        return False
    try:
        left = left_pair(table, one, other, thing)
    except HearsItself:
        return True
    return hears_itself(left, 0) or hears_itself(left, 1) or hearings(left) == (True, True)


def heard(table, rules):
    """The ascending list of all pairs (speaker, hearer) in the pair_tables by the rules of the further rooms."""
    need_table(table)
    need_rules(table, rules)
    need_fine(table)
    found = []
    for one, other in combinations(range(len(table.sends)), 2):
        one_hears, other_hears = hearings(left_pair(table, one, other, rules))
        if one_hears:
            found.append((other, one))
        if other_hears:
            found.append((one, other))
    return sorted(found)


def need_speaker(table, speaker, hearer):
    need_room(table, speaker)
    need_room(table, hearer)
    if hearer == speaker:
        raise BadRoom("the hearer is the speaker")


def talks(speaker, hearer, line, then):
    """Whether two sendings, each with its delivery, are a talk."""
    one, here = line
    other, there = then
    if one[speaker] == other[speaker] or one[hearer] != other[hearer] or here[hearer] == there[hearer]:
        return False
    return all([one[room] == other[room] for room, note in enumerate(here)
                if note == there[room] and room not in (speaker, hearer)])


def first_talk(table, speaker, hearer):
    """The first talk of the speaker to the hearer, which are not checked; None if there is none."""
    lines = list(zip(rows(table.sends), table.notes))
    for line, then in combinations(lines, 2):
        if talks(speaker, hearer, line, then):
            return (line[0], then[0])
    return None


def is_talk_of(table, speaker, hearer, thing):
    """Whether any value is a talk of the speaker to the hearer, which are not checked."""
    if not is_pair(table, thing):
        return False
    one, other = thing
    return talks(speaker, hearer, (one, brought(table, one)), (other, brought(table, other)))


def talk(table, speaker, hearer):
    """The first talk of the speaker to the hearer, None if there is none."""
    need_table(table)
    need_speaker(table, speaker, hearer)
    return first_talk(table, speaker, hearer)


def is_talk(table, speaker, hearer, thing):
    """Whether any value is a talk of the speaker to the hearer."""
    need_table(table)
    need_speaker(table, speaker, hearer)
    return is_talk_of(table, speaker, hearer, thing)


def talk_rules(table, speaker, hearer, talk):
    """The ascending dict of rules of all further rooms by which they send in the talk what they send there."""
    need_table(table)
    need_speaker(table, speaker, hearer)
    if not is_talk_of(table, speaker, hearer, talk):
        raise BadTalk("no talk of the speaker to the hearer")
    one, other = talk
    return {room: keeping_rule(table, room, one, other) for room in further(table, speaker, hearer)}


def tellings(table):
    """The ascending list of all pairs (speaker, hearer) with a talk."""
    need_table(table)
    rooms = range(len(table.sends))
    return [(speaker, hearer) for speaker in rooms for hearer in rooms
            if speaker != hearer and first_talk(table, speaker, hearer) is not None]
