"""The fewest changes that make a table fine, with papers when more are needed."""

from onestory.dooms import doom_of, is_doom_of
from onestory.errors import BadMany, TooMany
from onestory.every import every_fit
from onestory.fine import is_fine
from onestory.search import Search
from onestory.shapes import is_below
from onestory.sketches import blank_of, note_in
from onestory.tables import Table, need_table
from onestory.ways import need_most

MOST_MANY = 99
FIRST_TRIES = 100


def need_many(many):
    if not is_below(many, MOST_MANY + 1):
        raise BadMany("no number from 0 to 99")


def search_near(table, many):
    """A search for fine tables that differ from the table in at most so many cells."""
    search = Search(blank_of(table))
    search.near_to(table, many)
    return search


def unlike_cells(one, other):
    """In how many cells two tables of the same sizes differ."""
    return len([1 for here, there in zip(one.notes, other.notes) for note, told in zip(here, there) if note != told])


def searched_near(table, many):
    """Whether a fine table is so near, and the search that found it, or that came to nothing with so many changes."""
    least = 0
    tries = FIRST_TRIES
    while True:
        # If a fine table is much nearer than asked for, it is sooner found with a low bound. Nobody knows, so both are
        # tried, longer and longer.
        bounds = (least, many)
        for bound in bounds:
            search = search_near(table, bound)
            search.tries = tries
            found = search.works_out([])
            if found or found is False and bound == many:
                return (found, search)
            if found is False:
                least = bound + 1
        tries = tries * 2


def near(table, many):
    """A fine table that differs from the table in at most so many cells, None if there is none."""
    need_table(table)
    need_many(many)
    found, search = searched_near(table, many)
    return search.fit() if found else None


def is_near(table, many, thing):
    """Whether any value is a fine table that differs from the table in at most so many cells."""
    need_table(table)
    need_many(many)
    if not isinstance(thing, Table) or thing.sends != table.sends or thing.takes != table.takes:
        return False
    return unlike_cells(table, thing) <= many and is_fine(thing)


def far_paper(table, many):
    """A far paper of the table, None if a fine table is near."""
    need_table(table)
    need_many(many)
    found, search = searched_near(table, many)
    return None if found else doom_of(search)


def is_far_paper(table, many, thing):
    """Whether any value is a far paper of the table."""
    need_table(table)
    need_many(many)

    def is_far(guess, reason):
        return reason == ("far",) and len([1 for cell, note in guess if note_in(table, cell) != note]) > many

    return is_doom_of(blank_of(table), thing, is_far)


def distance(table):
    """In how many cells a fine table differs at least."""
    need_table(table)
    return least_unlike(table)


def least_unlike(table):
    least = 0
    most = constant_unlike(table)
    tries = FIRST_TRIES
    while least < most:
        # A low bound is easy if hardly anything must be changed, a middle one if much must be.
        bounds = (least, (least + most) // 2)
        for many in bounds:
            search = search_near(table, many)
            search.tries = tries
            found = search.works_out([])
            if found:
                most = min(most, unlike_cells(table, search.fit()))
            elif found is False:
                least = max(least, many + 1)
        tries = tries * 2
    return most


def constant_unlike(table):
    """In how many cells the table differs from one in which each room always receives what it does most often."""
    columns = [[received[room] for received in table.notes] for room in range(len(table.sends))]
    return sum([len(column) - max([column.count(note) for note in column]) for column in columns])


def nearest(table, most):
    """The list of all fine tables that differ in as few cells as can be, ascending by their notes."""
    need_table(table)
    need_most(most)
    search = search_near(table, least_unlike(table))
    found = every_fit(search, most)
    if found is None:
        raise TooMany(most)
    return [search.table_of(notes) for notes in sorted(found)]
