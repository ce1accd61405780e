"""What a fine table cannot do without: stamps, the cells that tell it from all other fine tables."""

from onestory.dooms import doom_of, is_doom_of
from onestory.errors import BadCells
from onestory.fine import is_fine, need_fine
from onestory.hitting import Others, another_fit
from onestory.nears import need_many
from onestory.sketches import all_cells, are_cells, note_in, open_cells, sketch_with
from onestory.tables import Table, need_table


def need_fine_table(table):
    need_table(table)
    need_fine(table)


def need_cells(table, cells):
    need_fine_table(table)
    if not are_cells(table, cells):
        raise BadCells("no ascending tuple of different cells")


def is_stamp(table, thing):
    """Whether any value is a stamp of the table."""
    need_fine_table(table)
    return are_cells(table, thing) and not another_fit(table, thing).works_out([])


def lock(table, cells):
    """A lock of the table and the cells, None if the cells are no stamp."""
    need_cells(table, cells)
    search = another_fit(table, cells)
    return None if search.works_out([]) else doom_of(search)


def is_lock(table, cells, thing):
    """Whether any value is a lock of the table and the cells."""
    need_cells(table, cells)
    sketch = sketch_with(table, cells)
    many = len(open_cells(sketch))

    def is_own(guess, reason):
        own = [1 for cell, note in guess if note_in(table, cell) == note]
        return reason == ("own",) and len(own) == many

    return is_doom_of(sketch, thing, is_own)


def other_fit(table, cells):
    """A fine table other than this one that has its notes in these cells, None if there is none."""
    need_cells(table, cells)
    search = another_fit(table, cells)
    return search.fit() if search.works_out([]) else None


def fewest_stamp(table):
    """The least number of cells of a stamp."""
    need_fine_table(table)
    return len(Others(table).least_stamp())


def stamp(table):
    """A stamp of as few cells as can be."""
    need_fine_table(table)
    others = Others(table)
    return others.shown(others.least_stamp())


def stamp_paper(table, many):
    """A stamp paper for so many cells, None if some stamp has at most so many."""
    need_fine_table(table)
    need_many(many)
    others = Others(table)
    if others.stamp_within(many) is not None:
        return None
    return others.paper(many)


def is_stamp_paper(table, many, thing):
    """Whether any value is a stamp paper for so many cells."""
    need_fine_table(table)
    need_many(many)
    if not isinstance(thing, dict) or () not in thing:
        return False
    if not all([are_cells(table, cells) and len(cells) <= many for cells in thing]):
        return False
    return all([is_other(table, cells, other) and (len(cells) == many or goes_on(table, cells, other, thing))
                for cells, other in thing.items()])


def is_other(table, cells, thing):
    """Whether any value is a fine table other than this one that has its notes in these cells."""
    if not isinstance(thing, Table) or thing.sends != table.sends or thing.takes != table.takes or thing == table:
        return False
    return all([note_in(thing, cell) == note_in(table, cell) for cell in cells]) and is_fine(thing)


def goes_on(table, cells, other, thing):
    """Whether the cells, each time with one more in which the other table differs, are keys of a dict."""
    unlike = [cell for cell in all_cells(table) if note_in(table, cell) != note_in(other, cell)]
    return all([tuple(sorted(cells + (cell,))) in thing for cell in unlike])


def needed(table):
    """The ascending list of the cells that are in every stamp."""
    need_fine_table(table)
    # One cell alone can be turned in a room that always sends the same, which parts nothing; any other room would
    # hear itself.
    return [cell for cell in all_cells(table) if table.sends[cell[1]] == 1 and table.takes[cell[1]] > 1]
