"""Fair chances: for all rules the stories weigh just what all deliveries at one sending do; or rules that show more."""

from itertools import combinations

from onestory.chances import Chances, need_chances, tally, weighed_cells, weights_at
from onestory.closings import need_rule
from onestory.errors import BadHeard, BadLot, BadOther, HearsItself, OneRoom
from onestory.shapes import is_row, joined, put_in, rows, without
from onestory.sketches import ascends
from onestory.stories import are_rules_of
from onestory.tables import need_room, need_sending


def is_fair(chances):
    """Whether the tally is the total for all rules."""
    return first_odd(chances) is None


def all_lots(rooms):
    """The list of all lots of so many rooms, the lesser ones first, then ascending."""
    return [lot for size in range(1, rooms + 1) for lot in combinations(range(rooms), size)]


def signed_sums(chances, lot, one, other):
    """The dict from what the rooms of the lot hear to the signed sum, for all that comes of some sending here."""
    takes = [(one, 1)]
    for room in lot:
        takes = takes + [(put_in(sent, room, other[room]), -sign) for sent, sign in takes]
    found = {}
    for sent, sign in takes:
        for received, many in weights_at(chances, sent):
            heard = tuple([received[room] for room in lot])
            found[heard] = found.get(heard, 0) + sign * many
    return found


def is_lot(chances, thing):
    """Whether any value is an ascending tuple of one or more rooms."""
    if not isinstance(thing, tuple) or thing == ():
        return False
    return is_row(thing, (len(chances.sends),) * len(thing)) and ascends(thing)


def signed_sum(chances, lot, heard, one, other):
    """How much oftener the lot hears this when an even number of its rooms send as in other than when an odd one do."""
    need_chances(chances)
    if not is_lot(chances, lot):
        raise BadLot("no ascending tuple of one or more rooms")
    if not is_row(heard, tuple([chances.takes[room] for room in lot])):
        raise BadHeard("no tuple with a note for each room of the lot")
    need_sending(chances, one)
    need_sending(chances, other)
    if [1 for room in lot if one[room] == other[room]]:
        raise BadOther("the two sendings do not differ at each room of the lot")
    return signed_sums(chances, lot, one, other).get(heard, 0)


def others_on(chances, lot):
    """The ascending list of the sendings that are zero just outside the lot."""
    sizes = [size if room in lot else 1 for room, size in enumerate(chances.sends)]
    return [sent for sent in rows(sizes) if 0 not in [sent[room] for room in lot]]


def first_odd(chances):
    """The first triple of a lot, what it hears and a sending whose signed sum is not 0; None if there is none."""
    need_chances(chances)
    zeros = (0,) * len(chances.sends)
    for lot in all_lots(len(chances.sends)):
        found = [(heard, other) for other in others_on(chances, lot)
                 for heard, many in signed_sums(chances, lot, zeros, other).items() if many != 0]
        if found:
            heard, other = min(found)
            return (lot, heard, other)
    return None


def unfair_rules(chances):
    """Rules with a tally below the total and rules with one above it; None if the chances are fair."""
    odd = first_odd(chances)
    if odd is None:
        return None
    lot, heard, other = odd
    rules = [[0] * taken for taken in chances.takes]
    for room, note in zip(lot, heard):
        rules[room][note] = other[room]
    return (sided(chances, rules, -1), sided(chances, rules, 1))


def sided(chances, rules, side):
    """Rules whose tally is on this side of the total, -1 for below; those that are given have another one.

    One note after another is told what is sent for it; for all others all numbers are sent as often as each other.
    At first the mean tally is the total, and if all were told what the rules say it would leave the total in the end.
    Where it would, some number leads to this side, and from there on some number always keeps it.
    """
    live = [(sent, received, many) for (sent, received), many in weighed_cells(chances)]
    found = []
    for room, rule in enumerate(rules):
        told = []
        for note, wanted in enumerate(rule):
            means = means_of(chances, live, room, note)
            number = wanted
            if max(means) > min(means):
                number = means.index(max(means) if side == 1 else min(means))
            told.append(number)
            live = told_on(chances, live, room, note, number)
        found.append(tuple(told))
    return tuple(found)


def means_of(chances, live, room, note):
    """For each number that the room can send, how much of what brings it this note has it sent."""
    found = [0] * chances.sends[room]
    for sent, received, many in live:
        if received[room] == note:
            found[sent[room]] += many
    return found


def told_on(chances, live, room, note, number):
    """What stays when the room sends this number for the note, and weighs as much more as others fall away."""
    found = []
    for sent, received, many in live:
        if received[room] != note:
            found.append((sent, received, many))
        elif sent[room] == number:
            found.append((sent, received, many * chances.sends[room]))
    return found


def is_unfair(chances, thing):
    """Whether any value is a pair of rules with a tally below the total, and rules with one above it."""
    need_chances(chances)
    if not isinstance(thing, tuple) or len(thing) != 2 or not all([are_rules_of(chances, rules) for rules in thing]):
        return False
    low, high = thing
    return tally(chances, low) < chances.total < tally(chances, high)


def note_weights(chances, sent, room):
    """The dict from the notes that come to the room at the sending to their weights."""
    found = {}
    for received, many in weights_at(chances, sent):
        found[received[room]] = found.get(received[room], 0) + many
    return found


def self_heard(chances, room):
    """Whether two sendings that differ in this room alone bring it some note with unlike weights."""
    need_chances(chances)
    need_room(chances, room)
    return hears_own(chances, room)


def hears_own(chances, room):
    return [1 for sent in rows(chances.sends)
            if note_weights(chances, sent, room) != note_weights(chances, put_in(sent, room, 0), room)] != []


def mean_closed(chances, room, rule):
    """The Chances of the others if the room sends what its rule says for what it receives."""
    need_chances(chances)
    need_room(chances, room)
    need_rule(chances, room, rule)
    if len(chances.sends) == 1:
        raise OneRoom("no room would be left")
    if hears_own(chances, room):
        raise HearsItself(room)
    sends = without(room, chances.sends)
    weights = [closed_weights(chances, room, rule, rest) for rest in rows(sends)]
    return Chances(sends, without(room, chances.takes), tuple(weights))


def closed_weights(chances, room, rule, rest):
    """What comes to the others, with its weights, when they send the rest and the room follows its rule."""
    found = {}
    for number in range(chances.sends[room]):
        for received, many in weights_at(chances, joined(room, number, rest)):
            if rule[received[room]] == number:
                others = without(room, received)
                found[others] = found.get(others, 0) + many
    return tuple([(others, found[others]) for others in sorted(found)])
