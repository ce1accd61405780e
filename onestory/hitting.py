"""Cells that tell a fine table from all other fine tables: some of them where any other one differs.

A cell is told by its place among all cells here, and a lot by an ascending tuple of cells.
"""

from onestory.search import Search
from onestory.sketches import all_cells, note_in, sketch_with
from onestory.ties import classes_of, note_at_rest, turned_table

MORE_THAN_ALL = 999


def another_fit(table, cells):
    """A search for a fine table other than this one that has its notes in these cells."""
    search = Search(sketch_with(table, cells))
    search.apart_from(table)
    return search


class Others:
    """Fine tables other than this one, each told by the lot of the cells in which it differs."""

    def __init__(self, table):
        self.given = table
        self.cells = all_cells(table)
        self.tables = {}
        self.lots = []
        for room, taken in enumerate(table.takes):
            if taken > 1:
                self.find_turned(room)

    def find_turned(self, room):
        """Keeps tables in which the notes of the room are turned in one class."""
        notes = [note_at_rest(self.given, room, lot[0]) for lot in classes_of(self.given, room)]
        for at, note in enumerate(notes):
            other = 1 if note == 0 else 0
            self.keep(turned_table(self.given, room, notes[:at] + [other] + notes[at + 1:]))

    def keep(self, other):
        """Keeps a table; its lot."""
        lot = self.lot_of(other)
        self.tables[lot] = other
        # The lesser lots come first: they leave the fewest ways.
        ordered = sorted([(len(found), found) for found in self.tables])
        self.lots = [found for _, found in ordered]
        return lot

    def lot_of(self, other):
        """The lot of the cells in which a table differs from this one."""
        return tuple([at for at, cell in enumerate(self.cells) if note_in(self.given, cell) != note_in(other, cell)])

    def find_other(self, chosen):
        """Keeps a table with the notes of this one in all chosen cells; its lot, None if there is none."""
        found = None
        search = another_fit(self.given, [self.cells[at] for at in sorted(chosen)])
        # At first any such table will do; then each time one that is nearer.
        while search.works_out([]):
            found = search.fit()
            search = another_fit(self.given, [self.cells[at] for at in sorted(chosen)])
            search.near_to(self.given, len(self.lot_of(found)) - 1)
        return None if found is None else self.keep(found)

    def lots_without(self, chosen):
        """The lots that have none of the chosen cells; none of them if no other table has its notes there."""
        told = {at: True for at in chosen}
        lots = [lot for lot in self.lots if not [1 for at in lot if at in told]]
        if lots:
            return lots
        lot = self.find_other(chosen)
        return [] if lot is None else [lot]

    def stamp_within(self, many):
        """A stamp of at most so many cells, None if there is none."""
        waiting = [((), ())]
        while waiting:
            chosen, barred = waiting.pop()
            lots = self.lots_without(chosen)
            if not lots:
                return tuple(sorted(chosen))
            allowed = [less_by(lot, barred) for lot in lots]
            left = sorted([(len(lot), lot) for lot in allowed])
            if hits_needed([lot for _, lot in left]) <= many - len(chosen):
                best = left[0][1]
                # Once all is tried with a cell it need not be tried again.
                ways = [(chosen + (cell,), barred + best[:at]) for at, cell in enumerate(best)]
                waiting.extend(ways[::-1])
        return None

    def least_stamp(self):
        """A stamp of as few cells as can be."""
        # To begin with, the lots are those of different classes, and have no cell in common.
        many = len(self.lots)
        found = self.stamp_within(many)
        while found is None:
            many += 1
            found = self.stamp_within(many)
        return found

    def paper(self, many):
        """The ascending dict from chosen cells, at most so many, to tables that differ elsewhere.

        No stamp may have so few cells.
        """
        found = {}
        waiting = [()]
        while waiting:
            chosen = waiting.pop()
            if chosen not in found:
                lot = self.lots_without(chosen)[0]
                found[chosen] = self.tables[lot]
                if len(chosen) < many:
                    waiting.extend([tuple(sorted(chosen + (cell,))) for cell in lot])
        return {self.shown(chosen): found[chosen] for chosen in sorted(found)}

    def shown(self, chosen):
        return tuple([self.cells[at] for at in chosen])


def less_by(lot, barred):
    return tuple([at for at in lot if at not in barred])


def hits_needed(lots):
    """A number of cells without which not all lots have a cell: so many of them have none in common."""
    many = 0
    taken = []
    for lot in lots:
        if not lot:
            # Nothing is left that could be chosen of it.
            return MORE_THAN_ALL
        if not [1 for at in lot if at in taken]:
            many += 1
            taken.extend(lot)
    return many
