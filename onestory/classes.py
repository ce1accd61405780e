"""Classes of rests: which cells of a fine table must be turned together."""

from onestory.errors import BadRest, OneNote
from onestory.fine import is_fine, need_fine
from onestory.shapes import is_row, without
from onestory.tables import Table, need_room, need_table
from onestory.ties import (all_ties, classes_of, layers_about, leads, note_at_rest, rests_of, shortest_chain,
                           turned_table)


def need_rest(table, room, rest):
    if not is_row(rest, without(room, table.sends)):
        raise BadRest("no tuple of what the others can send")


def need_rests(table, room, one, other):
    need_table(table)
    need_room(table, room)
    need_rest(table, room, one)
    need_rest(table, room, other)


def rests(table, room):
    """The ascending list of all rests of the room."""
    need_table(table)
    need_room(table, room)
    return rests_of(table, room)


def ties(table, room, one, other):
    """The ascending list of all pairs of numbers of the room by which two rests are tied."""
    need_rests(table, room, one, other)
    found = rests_of(table, room)
    return all_ties(found, layers_about(table, room), found.index(one), found.index(other))


def chain(table, room, one, other):
    """A chain from one rest to the other with as few links as can be, None if there is none."""
    need_rests(table, room, one, other)
    found = rests_of(table, room)
    return shortest_chain(found, layers_about(table, room), found.index(one), found.index(other))


def is_chain(table, room, one, other, thing):
    """Whether any value is a chain from one rest to the other."""
    need_rests(table, room, one, other)
    found = rests_of(table, room)
    return leads(found, layers_about(table, room), found.index(one), found.index(other), thing)


def classes(table, room):
    """The ascending list of the classes of rests between which chains lead."""
    need_table(table)
    need_room(table, room)
    return classes_of(table, room)


def class_notes(table, room):
    """The notes that the room of a fine table receives, one for each class."""
    need_table(table)
    need_room(table, room)
    need_fine(table)
    return tuple([note_at_rest(table, room, lot[0]) for lot in classes_of(table, room)])


def need_notes(table, room, one, other):
    need_rests(table, room, one, other)
    need_fine(table)
    if table.takes[room] == 1:
        raise OneNote("the room can receive one note only")


def apart(table, room, one, other):
    """A fine Table with other notes of the room alone, unlike at the two rests; None if they are of one class."""
    need_notes(table, room, one, other)
    lots = classes_of(table, room)
    if [lot for lot in lots if one in lot and other in lot]:
        return None
    notes = [note_at_rest(table, room, lot[0]) for lot in lots]
    here = [at for at, lot in enumerate(lots) if one in lot][0]
    there = [at for at, lot in enumerate(lots) if other in lot][0]
    if notes[here] == notes[there]:
        notes[there] = 1 if notes[here] == 0 else 0
    return turned_table(table, room, notes)


def is_apart(table, room, one, other, thing):
    """Whether any value is such a Table as apart returns."""
    need_notes(table, room, one, other)
    if not isinstance(thing, Table) or thing.sends != table.sends or thing.takes != table.takes:
        return False
    if [1 for here, there in zip(table.notes, thing.notes) if without(room, here) != without(room, there)]:
        return False
    return is_fine(thing) and note_at_rest(thing, room, one) != note_at_rest(thing, room, other)
