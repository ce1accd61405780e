"""Rooms closed one after another, and what is possible if some rules are known."""

from itertools import combinations

from onestory.errors import BadKnown, BadQueue, BadRest, BadRule, BadSent, HearsItself, OneRoom
from onestory.fine import first_pair, is_fine, is_pair, need_fine
from onestory.shapes import is_below, is_row, rows, without
from onestory.smaller import closed_table, completed_sending, held_table, hearing_pair, hears_itself, keeping_rule
from onestory.stories import is_rule_of, need_rules
from onestory.tables import brought, need_room, need_table


def need_rule(table, room, rule):
    if not is_rule_of(table, room, rule):
        raise BadRule("no rule of the room")


def need_others(table):
    if len(table.sends) == 1:
        raise OneRoom("no room would be left")


def need_unheard(table, room):
    if hears_itself(table, room):
        raise HearsItself(room)


def self_pair(table, room):
    """The first pair of sendings that differ in the room alone and bring it unlike notes, or None."""
    need_table(table)
    need_room(table, room)
    return hearing_pair(table, room, room)


def held(table, room, sent):
    """The Table of the others if the room always sends this."""
    need_table(table)
    need_room(table, room)
    if not is_below(sent, table.sends[room]):
        raise BadSent("no number that the room can send")
    need_others(table)
    return held_table(table, room, sent)


def closed(table, room, rule):
    """The Table of the others if the room always sends what its rule says for what it receives."""
    need_table(table)
    need_room(table, room)
    need_rule(table, room, rule)
    need_others(table)
    need_unheard(table, room)
    return closed_table(table, room, rule)


def completed(table, room, rule, rest):
    """The sending in which the others send rest and the room what its rule says for what it receives."""
    need_table(table)
    need_room(table, room)
    need_rule(table, room, rule)
    need_unheard(table, room)
    if not is_row(rest, without(room, table.sends)):
        raise BadRest("no tuple of what the others can send")
    return completed_sending(table, room, rule, rest)


def bad_closing(table, room):
    """How the room shows that the table is not fine; None if it is."""
    need_table(table)
    need_room(table, room)
    unparted_pair = first_pair(table)
    if unparted_pair is None:
        return None
    pair = hearing_pair(table, room, room)
    if pair is not None:
        return ("self", pair[0], pair[1])
    # Closed by a rule that keeps two unparted sendings, the table keeps them unlike and unparted.
    return ("rule", keeping_rule(table, room, unparted_pair[0], unparted_pair[1]))


def is_bad_closing(table, room, thing):
    """Whether any value shows, as bad_closing does, that the table is not fine."""
    need_table(table)
    need_room(table, room)
    if not isinstance(thing, tuple) or len(thing) not in (2, 3):
        return False
    if len(thing) == 3:
        return thing[0] == "self" and is_self_pair(table, room, thing[1:])
    return thing[0] == "rule" and is_bad_rule(table, room, thing[1])


def is_self_pair(table, room, thing):
    """Whether any value is a pair of sendings that differ in the room alone and bring it unlike notes."""
    if not is_pair(table, thing):
        return False
    one, other = thing
    return without(room, one) == without(room, other) and brought(table, one)[room] != brought(table, other)[room]


def is_bad_rule(table, room, thing):
    """Whether the room can be closed, and any value is a rule of it whose closing is not fine."""
    if not is_rule_of(table, room, thing) or len(table.sends) == 1 or hears_itself(table, room):
        return False
    return not is_fine(closed_table(table, room, thing))


def is_queue(table, thing):
    """Whether any value is a tuple of all rooms, each once."""
    if not is_row(thing, (len(table.sends),) * len(table.sends)):
        return False
    return sorted(thing) == list(range(len(thing)))


def closed_in_turn(table, known, rooms):
    """The list of what is left behind the closing of each of these rooms by its known rule, one after another."""
    left = table
    numbers = list(range(len(table.sends)))
    found = []
    for room in rooms:
        at = numbers.index(room)
        if hears_itself(left, at):
            raise HearsItself(room)
        left = closed_table(left, at, known[room])
        found.append(left)
        numbers.remove(room)
    return found


def settled(table, rules, queue):
    """All tables from the given one to the last room's, and the story, when the rooms are closed in this order."""
    need_table(table)
    need_rules(table, rules)
    if not is_queue(table, queue):
        raise BadQueue("no tuple of all rooms, each once")
    tables = [table] + closed_in_turn(table, rules, queue[:-1])
    last = queue[-1]
    if hears_itself(tables[-1], 0):
        raise HearsItself(last)
    # Backwards: each room tells what it sends by what those that were closed behind it send.
    sent = ()
    for at in range(len(queue) - 1, -1, -1):
        room = queue[at]
        number = len([other for other in queue[at:] if other < room])
        sent = completed_sending(tables[at], number, rules[room], sent)
    return (tuple(tables), sent)


def is_known(table, thing):
    """Whether any value is a dict from rooms to rules of these."""
    if not isinstance(thing, dict):
        return False
    return all([is_below(room, len(table.sends)) and is_rule_of(table, room, rule) for room, rule in thing.items()])


def need_known(table, known):
    if not is_known(table, known):
        raise BadKnown("no dict from rooms to rules of these")


def agrees(known, sent, received):
    """Whether each known room sends in the sending what its rule says for what it receives."""
    return all([rule[received[room]] == sent[room] for room, rule in known.items()])


def possible_lines(table, known):
    """The ascending list of all pairs of a possible sending and its delivery."""
    return [(sent, received) for sent, received in zip(rows(table.sends), table.notes) if agrees(known, sent, received)]


def possible(table, known):
    """The ascending list of all sendings that agree with the known rules."""
    need_table(table)
    need_known(table, known)
    return [sent for sent, _ in possible_lines(table, known)]


def in_common(lines):
    """What stands in all lines, place for place, and None where they are unlike; None if there are no lines."""
    if not lines:
        return None
    first = lines[0]
    return tuple([number if all([line[at] == number for line in lines]) else None for at, number in enumerate(first)])


def sure_notes(table, known):
    """What each room receives in all possible sendings, None where that varies; None if nothing is possible."""
    need_table(table)
    need_known(table, known)
    return in_common([received for _, received in possible_lines(table, known)])


def sure_sends(table, known):
    """What each room sends in all possible sendings, None where that varies; None if nothing is possible."""
    need_table(table)
    need_known(table, known)
    return in_common([sent for sent, _ in possible_lines(table, known)])


def completion(table, known, rest):
    """The one possible sending of a fine table in which the rooms that are not known send rest."""
    need_table(table)
    need_known(table, known)
    unknown = [room for room in range(len(table.sends)) if room not in known]
    if not is_row(rest, tuple([table.sends[room] for room in unknown])):
        raise BadRest("no tuple of what the rooms that are not known can send")
    need_fine(table)
    return [sent for sent, _ in possible_lines(table, known) if tuple([sent[room] for room in unknown]) == rest][0]


def least_known(table, rules, room):
    """The first of the shortest tuples of rooms whose rules, known alone, make the room's note sure."""
    need_table(table)
    need_rules(table, rules)
    need_room(table, room)
    need_fine(table)
    rooms = len(table.sends)
    lots = [lot for size in range(rooms + 1) for lot in combinations(range(rooms), size)]
    # If all rules are known, just the story is possible.
    return [lot for lot in lots if is_sure(table, {other: rules[other] for other in lot}, room)][0]


def is_sure(table, known, room):
    """Whether the room receives the same in all possible sendings; there is one at least."""
    return in_common([received for _, received in possible_lines(table, known)])[room] is not None
