"""Mixes of two fine tables of the same sizes, and rows of mixes; what is passed here is not checked."""

from itertools import combinations

from onestory.shapes import put_in, rows
from onestory.tables import Table


def mixed_table(one, other, mix):
    """The Table in which the rooms with 0 receive what they do in one, those with 1 always 0, the rest as in other."""
    notes = [tuple([mixed_note(number, here[room], there[room]) for room, number in enumerate(mix)])
             for here, there in zip(one.notes, other.notes)]
    return Table(one.sends, one.takes, tuple(notes))


def mixed_note(number, here, there):
    if number == 1:
        return 0
    return here if number == 0 else there


def raised(mix):
    """The list of all mixes in which just one item is raised."""
    return [put_in(mix, room, more) for room, number in enumerate(mix) for more in range(number + 1, 3)]


class Mixes:
    """What the rooms of all mixes part, and which mixes make the other table."""

    def __init__(self, one, other):
        rooms = range(len(one.sends))
        three = [mixed_table(one, other, (number,) * len(one.sends)) for number in range(3)]
        self.nothing = (0,) * len(one.sends)
        # For each room, for each of 0, 1 and 2, a number: the bit at the index of a pair tells whether it is parted.
        self.parted = [[parted_bits(table, room) for table in three] for room in rooms]
        self.every = (1 << (len(one.notes) * (len(one.notes) - 1) // 2)) - 1
        self.ends = [[column(table, room) == column(other, room) for table in three] for room in rooms]

    def is_sound(self, mix):
        """Whether the Table of the mix is fine."""
        bits = 0
        for room, number in enumerate(mix):
            bits = bits | self.parted[room][number]
        return bits == self.every

    def is_end(self, mix):
        """Whether the Table of the mix is the other one."""
        return all([self.ends[room][number] for room, number in enumerate(mix)])

    def unsound(self):
        """The dict, with True, of all mixes whose Tables are not fine."""
        return {mix: True for mix in rows((3,) * len(self.nothing)) if not self.is_sound(mix)}

    def reached(self, barred, most):
        """The dict from each mix on a row of at most so many raises, with none that is barred, to the one ahead of it.

        Those that come with fewer raises come first.
        """
        found = {self.nothing: None}
        last = [self.nothing]
        for _ in range(most):
            further = []
            for mix in last:
                for more in raised(mix):
                    if more not in found and more not in barred:
                        found[more] = mix
                        further.append(more)
            last = further
        return found

    def first_end(self, found):
        """The first of the mixes whose Table is the other one, None if there is none."""
        ends = [mix for mix in found if self.is_end(mix)]
        return ends[0] if ends else None

    def short_row(self):
        """A row of as few mixes as can be, all of whose Tables are fine."""
        found = self.reached(self.unsound(), 2 * len(self.nothing))
        row = [self.first_end(found)]
        while found[row[-1]] is not None:
            row.append(found[row[-1]])
        return row[::-1]


def column(table, room):
    return [received[room] for received in table.notes]


def parted_bits(table, room):
    """The set of the pairs of sendings that the room parts, told by bits."""
    lines = [(sent[room], received[room]) for sent, received in zip(rows(table.sends), table.notes)]
    bits = 0
    at = 0
    for line, then in combinations(lines, 2):
        if line[0] != then[0] and line[1] == then[1]:
            bits = bits | 1 << at
        at += 1
    return bits
