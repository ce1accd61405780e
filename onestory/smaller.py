"""Rooms that hear others, and tables of fewer rooms; what is passed here is not checked."""

from onestory.shapes import joined, put_in, rows, without
from onestory.tables import Table, brought


def hearing_pair(table, speaker, hearer):
    """The first pair of sendings that differ in the speaker alone and bring the hearer unlike notes, or None."""
    for one, here in zip(rows(table.sends), table.notes):
        for number in range(one[speaker] + 1, table.sends[speaker]):
            other = put_in(one, speaker, number)
            if brought(table, other)[hearer] != here[hearer]:
                return (one, other)
    return None


def hears_itself(table, room):
    return hearing_pair(table, room, room) is not None


def held_table(table, room, sent):
    """The Table of the others if the room always sends this."""
    sends = without(room, table.sends)
    notes = [without(room, brought(table, joined(room, sent, rest))) for rest in rows(sends)]
    return Table(sends, without(room, table.takes), tuple(notes))


def completed_sending(table, room, rule, rest):
    """The sending in which the others send rest and the room, which does not hear itself, follows its rule."""
    # What the room sends makes no difference to what it receives, so 0 is as good as anything.
    note = brought(table, joined(room, 0, rest))[room]
    return joined(room, rule[note], rest)


def closed_table(table, room, rule):
    """The Table of the others if the room, which does not hear itself, follows its rule."""
    sends = without(room, table.sends)
    notes = []
    for rest in rows(sends):
        received = brought(table, completed_sending(table, room, rule, rest))
        notes.append(without(room, received))
    return Table(sends, without(room, table.takes), tuple(notes))


def keeping_rule(table, room, one, other):
    """The rule by which the room sends in two sendings what it sends there, and 0 for all other notes.

    If the room receives the same in both, it must send the same in both.
    """
    rule = [0] * table.takes[room]
    for sent in (one, other):
        rule[brought(table, sent)[room]] = sent[room]
    return tuple(rule)
