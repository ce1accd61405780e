"""Turns, by which a fine table becomes another one, room by room, and the fewest of them."""

from onestory.errors import BadMix, BadNotes, BadNumber, BadRooms, BadTurns
from onestory.fine import first_pair, is_pair, least_parting, need_fine, need_two_fine
from onestory.mixes import Mixes, mixed_table, raised
from onestory.shapes import is_below, is_row, put_in
from onestory.sketches import ascends
from onestory.tables import brought, need_room, need_table
from onestory.ties import classes_of, note_at_rest, turned_table

MOST_TURNS = 20


def are_class_notes(table, room, thing):
    """Whether any value is a tuple with a note for each class of the room."""
    return is_row(thing, (table.takes[room],) * len(classes_of(table, room)))


def turned(table, room, notes):
    """The Table in which the room receives these notes, class by class, and all else is as it was."""
    need_table(table)
    need_room(table, room)
    need_fine(table)
    if not are_class_notes(table, room, notes):
        raise BadNotes("no tuple with a note for each class")
    return turned_table(table, room, notes)


def is_turn(table, thing):
    """Whether any value is a turn of a fine table."""
    if not isinstance(thing, tuple) or len(thing) != 2:
        return False
    return is_below(thing[0], len(table.sends)) and are_class_notes(table, thing[0], thing[1])


def passed(table, turns):
    """The list of all Tables on the way of these turns, the given one first."""
    need_table(table)
    need_fine(table)
    if not isinstance(turns, (list, tuple)):
        raise BadTurns(None)
    found = [table]
    for at, turn in enumerate(turns):
        if not is_turn(found[-1], turn):
            raise BadTurns(at)
        found.append(turned_table(found[-1], turn[0], turn[1]))
    return found


def need_two(one, other):
    # Turns are checked in an order of their own: here BadTable for either comes ahead of NotFine for either.
    need_table(one)
    need_table(other)
    need_two_fine(one, other)


def is_way(one, other, thing):
    """Whether any value is a way from one fine table to the other."""
    need_two(one, other)
    if not isinstance(thing, (list, tuple)):
        return False
    here = one
    for turn in thing:
        if not is_turn(here, turn):
            return False
        here = turned_table(here, turn[0], turn[1])
    return here == other


def hushed(table, rooms):
    """The Table in which these rooms receive 0 whatever is sent."""
    need_table(table)
    if not isinstance(rooms, tuple) or not is_row(rooms, (len(table.sends),) * len(rooms)) or not ascends(rooms):
        raise BadRooms("no ascending tuple of different rooms")
    return mixed_table(table, table, tuple([1 if room in rooms else 0 for room in range(len(table.sends))]))


def turn_to(table, room, wanted):
    """The turn by which the room receives what it does in another fine table, in which all others receive the same."""
    return (room, tuple([note_at_rest(wanted, room, lot[0]) for lot in classes_of(table, room)]))


def turns_along(one, other, row):
    """The turns from each mix of a row to the next, all of whose Tables are fine."""
    found = []
    for mix, then in zip(row[:-1], row[1:]):
        room = [at for at, number in enumerate(mix) if number != then[at]][0]
        found.append(turn_to(mixed_table(one, other, mix), room, mixed_table(one, other, then)))
    return found


def plain_way(one, other):
    """The way on which all rooms but the last are turned to 0, then the last, and then the others back."""
    need_two(one, other)
    last = len(one.sends) - 1
    row = [(0,) * len(one.sends)]
    for room in range(last):
        row.append(put_in(row[-1], room, 1))
    for room in range(last, -1, -1):
        row.append(put_in(row[-1], room, 2))
    return turns_along(one, other, row)


def mixed(one, other, mix):
    """The Table in which the rooms with 0 receive what they do in one, those with 1 always 0, the rest as in other."""
    need_two(one, other)
    if not is_row(mix, (3,) * len(one.sends)):
        raise BadMix("no tuple with 0, 1 or 2 for each room")
    return mixed_table(one, other, mix)


def fewest_turns(one, other):
    """The least number of turns of a way."""
    need_two(one, other)
    return len(Mixes(one, other).short_row()) - 1


def short_way(one, other):
    """A way with as few turns as can be."""
    need_two(one, other)
    return turns_along(one, other, Mixes(one, other).short_row())


def need_number(one, other, number):
    need_two(one, other)
    if not is_below(number, MOST_TURNS + 1):
        raise BadNumber("no number from 0 to 20")


def bar(one, other, number):
    """A bar for the number, None if some way has at most so many turns."""
    need_number(one, other, number)
    mixes = Mixes(one, other)
    unsound = mixes.unsound()
    found = mixes.reached(unsound, number)
    if mixes.first_end(found) is not None:
        return None
    # Each row that is not too long has an unsound mix, the first of which comes behind a mix that is reached.
    stops = sorted(set([more for mix in found for more in raised(mix) if more in unsound]))
    return {mix: first_pair(mixed_table(one, other, mix)) for mix in stops}


def is_bar(one, other, number, thing):
    """Whether any value is a bar for the number."""
    need_number(one, other, number)
    if not isinstance(thing, dict) or not all([is_stop(one, other, mix, pair) for mix, pair in thing.items()]):
        return False
    mixes = Mixes(one, other)
    return mixes.first_end(mixes.reached(thing, number)) is None


def is_stop(one, other, mix, thing):
    """Whether a key is a mix and any value a pair of sendings that are not parted in its Table."""
    if not is_row(mix, (3,) * len(one.sends)) or not is_pair(one, thing):
        return False
    table = mixed_table(one, other, mix)
    here, there = thing
    return least_parting(here, there, brought(table, here), brought(table, there)) is None
