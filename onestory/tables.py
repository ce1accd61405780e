"""Tables: which note each room receives by what all rooms send."""

from onestory.errors import (BadNote, BadNotes, BadRoom, BadSending, BadSends, BadSizes, BadTable, BadTakes,
                             OtherSizes)
from onestory.shapes import are_sends, are_takes, is_below, is_row, multiplied, place, put_in, rows


class Table:
    """What the rooms can send and receive, and a delivery for each sending."""

    def __init__(self, sends, takes, notes):
        if not are_sends(sends):
            raise BadSends("no tuple of what one to six rooms can send")
        if not are_takes(takes, len(sends)):
            raise BadTakes("no tuple of what these rooms can receive")
        if not are_notes(sends, takes, notes):
            raise BadNotes("no tuple with a delivery for each sending")
        self.sends = sends
        self.takes = takes
        self.notes = notes

    def __eq__(self, other):
        return (isinstance(other, Table) and self.sends == other.sends and self.takes == other.takes
                and self.notes == other.notes)


def are_notes(sends, takes, thing):
    """Whether it is a tuple with one delivery for each sending."""
    if not isinstance(thing, tuple) or len(thing) != multiplied(sends):
        return False
    return all([is_row(received, takes) for received in thing])


def need_table(table):
    if not isinstance(table, Table):
        raise BadTable("no Table")


def need_same_sizes(one, other):
    if one.sends != other.sends or one.takes != other.takes:
        raise OtherSizes("the tables have other sizes")


def need_room(table, room):
    if not is_below(room, len(table.sends)):
        raise BadRoom("no room of the table")


def need_sending(table, sending):
    if not is_row(sending, table.sends):
        raise BadSending("no sending of the table")


def brought(table, sending):
    """What the rooms receive by a sending, which is not checked."""
    return table.notes[place(table.sends, sending)]


def sendings(sends):
    """The ascending list of all sendings."""
    if not are_sends(sends):
        raise BadSends("no tuple of what one to six rooms can send")
    return rows(sends)


def delivery(table, sending):
    """What the rooms receive by the sending."""
    need_table(table)
    need_sending(table, sending)
    return brought(table, sending)


def changed(table, sending, room, note):
    """The Table in which the room receives this note at this sending, all else as it was."""
    need_table(table)
    need_sending(table, sending)
    need_room(table, room)
    if not is_below(note, table.takes[room]):
        raise BadNote("no note that the room can receive")
    at = place(table.sends, sending)
    received = put_in(table.notes[at], room, note)
    return Table(table.sends, table.takes, table.notes[:at] + (received,) + table.notes[at + 1:])


def ring_table(sizes):
    """The Table in which each room receives what the room ahead of it sends."""
    if not are_sends(sizes):
        raise BadSizes("no sizes of one to six rooms")
    # The first room receives what the last one sends.
    return Table(sizes, sizes[-1:] + sizes[:-1], tuple([sent[-1:] + sent[:-1] for sent in rows(sizes)]))


def quiet_table(sends, takes):
    """The Table in which each room always receives 0."""
    if not are_sends(sends):
        raise BadSends("no tuple of what one to six rooms can send")
    return Table(sends, takes, ((0,) * len(sends),) * multiplied(sends))


def turning_table():
    """Three rooms that receive 1 exactly if the one ahead sends 1 and the one behind sends 0."""
    sends = (2, 2, 2)
    return Table(sends, sends, tuple([turning_delivery(sent) for sent in rows(sends)]))


def turning_delivery(sent):
    received = []
    for room in range(len(sent)):
        ahead = sent[room - 1]
        behind = sent[(room + 1) % len(sent)]
        received.append(1 if ahead == 1 and behind == 0 else 0)
    return tuple(received)
