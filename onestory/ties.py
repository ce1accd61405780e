"""Rests that are tied, and classes of them; what is passed here is not checked.

The rests are the rows of what some rooms send. Layers tell, for each number that one more room can send, what those
rooms receive by each rest, in order. A rest is told by its place among all rests here.
"""

from onestory.shapes import is_below, is_number, joined, put_in, rows, without
from onestory.tables import Table, brought


def rests_of(table, room):
    """The ascending list of all rests of the room."""
    return rows(without(room, table.sends))


def layers_about(table, room):
    """The layers of the others of the room, one for each number that it can send."""
    return [[without(room, brought(table, joined(room, number, rest))) for rest in rests_of(table, room)]
            for number in range(table.sends[room])]


def all_ties(rests, layers, one, other):
    """The ascending list of all pairs of numbers by which two rests are tied; none for equal rests."""
    if one == other:
        return []
    return [(x, y) for x, here in enumerate(layers) for y, there in enumerate(layers)
            if none_parts(rests[one], rests[other], here[one], there[other])]


def none_parts(one, other, here, there):
    """Whether no room that sends otherwise receives the same."""
    return all([note != there[room] for room, note in enumerate(here) if one[room] != other[room]])


def last_links(rests, layers, start):
    """For each rest that chains from the start reach the last link of a shortest one: whence, x and y."""
    found = {start: (start, None, None)}
    last = [start]
    while last:
        reached = []
        for one in last:
            for other in range(len(rests)):
                pairs = [] if other in found else all_ties(rests, layers, one, other)
                if pairs:
                    found[other] = (one, pairs[0][0], pairs[0][1])
                    reached.append(other)
        last = reached
    return found


def shortest_chain(rests, layers, one, other):
    """A list of links from one rest to the other, as few as can be; None if there is none."""
    found = last_links(rests, layers, one)
    if other not in found:
        return None
    links = []
    there = other
    while there != one:
        whence, x, y = found[there]
        links.append((x, y, rests[there]))
        there = whence
    return links[::-1]


def leads(rests, layers, one, other, thing):
    """Whether any value is a list of links that lead from one rest to the other."""
    return chain_end(rests, layers, one, thing) == other


def chain_end(rests, layers, one, thing):
    """The rest to which any value leads from one as a list of links; None if it is none."""
    if not isinstance(thing, (list, tuple)):
        return None
    here = one
    for link in thing:
        here = link_end(rests, layers, here, link)
        if here is None:
            return None
    return here


def link_end(rests, layers, here, thing):
    """The rest to which any value leads from a rest as a link; None if it is none."""
    if not isinstance(thing, tuple) or len(thing) != 3:
        return None
    x, y, rest = thing
    if not is_below(x, len(layers)) or not is_below(y, len(layers)) or not is_row_of(rests, rest):
        return None
    there = rests.index(rest)
    tied = here != there and none_parts(rests[here], rest, layers[x][here], layers[y][there])
    return there if tied else None


def is_row_of(rests, thing):
    """Whether any value is one of the rests."""
    return isinstance(thing, tuple) and all([is_number(number) for number in thing]) and thing in rests


def all_classes(rests, layers):
    """The ascending list of the classes, ascending tuples of places of rests."""
    left = list(range(len(rests)))
    found = []
    while left:
        reached = last_links(rests, layers, left[0])
        found.append(tuple(sorted(reached)))
        left = [one for one in left if one not in reached]
    return found


def classes_of(table, room):
    """The ascending list of the classes of the room, ascending tuples of rests."""
    rests = rests_of(table, room)
    return [tuple([rests[at] for at in places]) for places in all_classes(rests, layers_about(table, room))]


def note_at_rest(table, room, rest):
    """What the room, which does not hear itself, receives by a rest."""
    return brought(table, joined(room, 0, rest))[room]


def turned_table(table, room, notes):
    """The Table in which the room receives these notes, class by class, and all else is as it was."""
    told = {rest: note for lot, note in zip(classes_of(table, room), notes) for rest in lot}
    lines = [put_in(received, room, told[without(room, sent)])
             for sent, received in zip(rows(table.sends), table.notes)]
    return Table(table.sends, table.takes, tuple(lines))
