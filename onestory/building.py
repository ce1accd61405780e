"""Tables built of others: beside each other, split, glued, teams with what is put in, and houses in rooms."""

from onestory.closings import need_rule, need_unheard
from onestory.errors import BadHouse, BadInner, BadRest, BadRoom, BadSplit, BadTeam, NotAlike, OneRoom, TooGreat
from onestory.fine import is_fine, need_fine
from onestory.shapes import (MOST_NUMBERS, MOST_ROOMS, MOST_SENDINGS, is_below, is_number, is_row, joined, multiplied,
                             put_in, rows, without)
from onestory.sketches import ascends
from onestory.smaller import hearing_pair
from onestory.tables import Table, brought, need_room, need_table


def need_small(sends, takes):
    """Refuses what is greater than a Table can be."""
    if len(sends) > MOST_ROOMS or multiplied(sends) > MOST_SENDINGS or max(takes) > MOST_NUMBERS:
        raise TooGreat("what would be made is no Table")


def beside(first, second):
    """The Table of the rooms of both, each of which receives what it receives in its own table."""
    need_table(first)
    need_table(second)
    sends = first.sends + second.sends
    takes = first.takes + second.takes
    need_small(sends, takes)
    return Table(sends, takes, tuple([here + there for here in first.notes for there in second.notes]))


def pieces(table):
    """The ascending list of the lots of rooms that hearing joins."""
    need_table(table)
    left = list(range(len(table.sends)))
    found = []
    while left:
        piece = []
        waiting = [left[0]]
        while waiting:
            room = waiting.pop()
            if room not in piece:
                piece.append(room)
                waiting.extend([other for other in left if other not in piece and are_neighbours(table, room, other)])
        found.append(sorted(piece))
        left = [room for room in left if room not in piece]
    return found


def are_neighbours(table, room, other):
    """Whether one of two rooms hears the other."""
    return hearing_pair(table, room, other) is not None or hearing_pair(table, other, room) is not None


def piece_tables(table):
    """The list of the Tables of the pieces."""
    # What the rooms of other pieces send makes no difference, so 0 is as good as anything.
    return [inside_of(table, piece, (0,) * (len(table.sends) - len(piece))) for piece in pieces(table)]


def picked(rooms, row):
    """The row of these rooms alone."""
    return tuple([row[room] for room in rooms])


def woven(rooms, sent, rest):
    """The row in which these rooms, ascending, have what is sent, and the others the rest."""
    found = list(rest)
    for room, number in zip(rooms, sent):
        found.insert(room, number)
    return tuple(found)


def inside_of(table, rooms, rest):
    """The Table of these rooms if the others always send the rest."""
    sends = picked(rooms, table.sends)
    notes = [picked(rooms, brought(table, woven(rooms, sent, rest))) for sent in rows(sends)]
    return Table(sends, picked(rooms, table.takes), tuple(notes))


def split(table, room, one, other):
    """The Table with two rooms in the place of the room, which together send what it sends."""
    need_table(table)
    need_room(table, room)
    if not is_number(one) or not is_number(other) or one < 1 or other < 1 or one * other != table.sends[room]:
        raise BadSplit("no numbers with what the room sends as their product")
    sends = table.sends[:room] + (one, other) + table.sends[room + 1:]
    takes = doubled(table.takes, room)
    need_small(sends, takes)
    # The sendings come in the same order as before.
    return Table(sends, takes, tuple([doubled(received, room) for received in table.notes]))


def doubled(row, room):
    return row[:room + 1] + row[room:]


def glued(table, room):
    """The Table with one room in the place of this one and the next one, which receive the same."""
    need_table(table)
    if not is_below(room, len(table.sends) - 1):
        raise BadRoom("no room of the table, or the last one")
    lines = [table.takes] + list(table.notes)
    if [1 for line in lines if line[room] != line[room + 1]]:
        raise NotAlike("the two rooms do not receive the same")
    sends = table.sends[:room] + (table.sends[room] * table.sends[room + 1],) + table.sends[room + 2:]
    return Table(sends, without(room, table.takes), tuple([without(room, received) for received in table.notes]))


def is_team(table, thing):
    """Whether any value is an ascending tuple of different rooms, at least one and not all."""
    if not isinstance(thing, tuple) or not 0 < len(thing) < len(table.sends):
        return False
    return is_row(thing, (len(table.sends),) * len(thing)) and ascends(thing)


def others_of(table, team):
    """The ascending list of the rooms that are not in the team."""
    return [room for room in range(len(table.sends)) if room not in team]


def need_team(table, team, rest):
    need_table(table)
    if not is_team(table, team):
        raise BadTeam("no ascending tuple of some rooms, not all")
    if not is_row(rest, picked(others_of(table, team), table.sends)):
        raise BadRest("no tuple of what the other rooms can send")


def inside(table, team, rest):
    """The Table of the team's rooms if the others always send the rest."""
    need_team(table, team, rest)
    return inside_of(table, team, rest)


def is_inner(table, team, thing):
    """Whether any value is a Table of the sizes of the team's rooms."""
    if not isinstance(thing, Table):
        return False
    return thing.sends == picked(team, table.sends) and thing.takes == picked(team, table.takes)


def replaced_in(table, team, rest, inner):
    """The table in which the team's rooms receive what they do in inner where the others send the rest."""
    others = others_of(table, team)
    notes = []
    for sent, received in zip(rows(table.sends), table.notes):
        if picked(others, sent) == rest:
            received = woven(team, brought(inner, picked(team, sent)), picked(others, received))
        notes.append(received)
    return Table(table.sends, table.takes, tuple(notes))


def replaced(table, team, rest, inner):
    """The table in which the team's rooms receive what they do in inner where the others send the rest."""
    need_team(table, team, rest)
    if not is_inner(table, team, inner):
        raise BadInner("no Table of the sizes of the team's rooms")
    return replaced_in(table, team, rest, inner)


def loud_lines(table, team, rest):
    """What shows that the team is not free at rest, None if it is.

    A sending with the rest and one of another number of one of the team, that room, and the room that hears it.
    """
    listeners = [room for room in others_of(table, team) if table.sends[room] > 1]
    speakers = [room for room in team if table.takes[room] > 1]
    for sent in rows(picked(team, table.sends)):
        one = woven(team, sent, rest)
        here = brought(table, one)
        for speaker in speakers:
            for number in range(one[speaker] + 1, table.sends[speaker]):
                other = put_in(one, speaker, number)
                there = brought(table, other)
                for listener in listeners:
                    if here[listener] != there[listener]:
                        return (one, other, speaker, listener)
    return None


def is_free(table, team, rest):
    """Whether no other room hears a room of the team where the others send the rest."""
    need_team(table, team, rest)
    return loud_lines(table, team, rest) is None


def free_teams(table):
    """The ascending list of all pairs of a team and a rest at which it is free."""
    need_table(table)
    every = range(len(table.sends))
    lots = [tuple([room for room in every if row[room] == 1]) for row in rows((2,) * len(table.sends))]
    teams = sorted([lot for lot in lots if is_team(table, lot)])
    return [(team, rest) for team in teams for rest in rows(picked(others_of(table, team), table.sends))
            if loud_lines(table, team, rest) is None]


def breaker(table, team, rest):
    """A fine inner with which replaced is not fine; None if the team is free at rest."""
    need_team(table, team, rest)
    need_fine(table)
    loud = loud_lines(table, team, rest)
    if loud is None:
        return None
    one, other, speaker, listener = loud
    # Where the listener sends otherwise it still receives what it does at other, and the inner table has no say.
    away = put_in(other, listener, 1 if one[listener] == 0 else 0)
    note = 1 if brought(table, away)[speaker] == 0 else 0
    received = tuple([note if room == speaker else 0 for room in team])
    sends = picked(team, table.sends)
    return Table(sends, picked(team, table.takes), (received,) * multiplied(sends))


def is_breaker(table, team, rest, thing):
    """Whether any value is a fine inner with which replaced is not fine."""
    need_team(table, team, rest)
    need_fine(table)
    if not is_inner(table, team, thing) or not is_fine(thing):
        return False
    return not is_fine(replaced_in(table, team, rest, thing))


def is_house_for(table, room, thing):
    """Whether any value is a Table of two rooms or more whose first and last one are doors for the room."""
    if not isinstance(thing, Table) or len(thing.sends) < 2:
        return False
    inward = thing.takes[0] == 1 and thing.sends[0] == table.takes[room]
    return inward and thing.sends[-1] == 1 and thing.takes[-1] == table.sends[room]


def nested(table, room, house):
    """The Table of the others and of the house's rooms but its doors, which stand for the room."""
    need_table(table)
    need_room(table, room)
    if not is_house_for(table, room, house):
        raise BadHouse("no house for the room")
    if len(table.sends) == 1 and len(house.sends) == 2:
        raise OneRoom("no room would be left")
    need_unheard(table, room)
    others = without(room, table.sends)
    sends = others + house.sends[1:-1]
    takes = without(room, table.takes) + house.takes[1:-1]
    need_small(sends, takes)
    notes = []
    for sent in rows(sends):
        rest = sent[:len(others)]
        # What the room sends makes no difference to what it receives.
        note = brought(table, joined(room, 0, rest))[room]
        within = brought(house, (note,) + sent[len(others):] + (0,))
        received = brought(table, joined(room, within[-1], rest))
        notes.append(without(room, received) + within[1:-1])
    return Table(sends, takes, tuple(notes))


def two_doors(table, room, rule):
    """The house of two rooms whose last one receives what the rule says."""
    need_table(table)
    need_room(table, room)
    need_rule(table, room, rule)
    return Table((table.takes[room], 1), (1, table.sends[room]), tuple([(0, number) for number in rule]))
