"""Tables opened by two doors, and tables run backwards, from what is received to what is sent."""

from onestory.building import need_small
from onestory.errors import NotTwoWay
from onestory.shapes import multiplied, rows
from onestory.tables import Table, need_table


def opened(table):
    """The Table with a first room, which turns what the others receive, and a last one, which hears what they send."""
    need_table(table)
    first = multiplied(table.takes)
    sends = (first,) + table.sends + (1,)
    takes = (1,) + table.takes + (len(table.notes),)
    need_small(sends, takes)
    notes = [(0,) + added_to(received, more, table.takes) + (at,)
             for more in rows(table.takes) for at, received in enumerate(table.notes)]
    return Table(sends, takes, tuple(notes))


def added_to(received, more, takes):
    return tuple([(note + other) % size for note, other, size in zip(received, more, takes)])


def is_two_way(table):
    """Whether each delivery comes at just one sending."""
    need_table(table)
    return multiplied(table.takes) == len(table.notes) and len(set(table.notes)) == len(table.notes)


def backwards(table):
    """The Table in which each delivery, sent, brings the sending at which it comes."""
    if not is_two_way(table):
        raise NotTwoWay("some delivery does not come at just one sending")
    lines = sorted([(received, sent) for sent, received in zip(rows(table.sends), table.notes)])
    return Table(table.takes, table.sends, tuple([sent for _, sent in lines]))
