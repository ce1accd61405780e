"""Screens and dooms with a short memory: few guessed cells are kept in mind at once."""

from onestory.dooms import guess_of, is_doom_of, no_end, told_steps
from onestory.errors import BadKept, TooMany
from onestory.memory import Memory, key_of_guess, lasts_among
from onestory.search import Search
from onestory.shapes import is_number, rows
from onestory.sketches import ascends, is_guess, need_sketch, open_cells
from onestory.ways import fit_without

MOST_GUESSES = 20000
MOST_KEPT = 99


def need_kept(sketch, kept):
    """Also refuses too many guesses, which comes behind the other errors of all functions that have kept."""
    need_sketch(sketch)
    if not is_number(kept) or not 1 <= kept <= MOST_KEPT:
        raise BadKept("no number from 1 to 99")
    need_few(sketch, kept)


def need_few(sketch, kept):
    """Refuses a sketch that has too many guesses of at most so many pairs."""
    counted = [1] + [0] * kept
    for _, room in open_cells(sketch):
        for size in range(kept, 0, -1):
            counted[size] += counted[size - 1] * sketch.takes[room]
    if sum(counted) > MOST_GUESSES:
        raise TooMany(MOST_GUESSES)


def screen(sketch, kept):
    """The screen within kept that has the guesses of all of them, None if there is none."""
    need_kept(sketch, kept)
    memory = Memory(sketch, kept)
    if not memory.lasting:
        return None
    lines = rows(sketch.sends)
    return tuple([guess_of(memory.search, lines, key) for key in sorted(memory.lasting)])


def is_screen(sketch, kept, thing):
    """Whether any value is a screen within kept."""
    need_kept(sketch, kept)
    if not isinstance(thing, tuple) or not all([is_guess(sketch, guess) and len(guess) <= kept for guess in thing]):
        return False
    if not ascends(thing) or () not in thing:
        return False
    search = Search(sketch)
    standing = {key_of_guess(sketch, guess): True for guess in thing}
    return all([lasts_among(search, standing, key, kept) for key in standing])


def doom_within(sketch, kept):
    """A doom within kept, None if there is a screen."""
    need_kept(sketch, kept)
    memory = Memory(sketch, kept)
    if memory.lasting:
        return None
    return told_steps(memory.search, memory.used_steps())


def is_doom_within(sketch, kept, thing):
    """Whether any value is a doom within kept."""
    need_kept(sketch, kept)
    if not is_doom_of(sketch, thing, no_end):
        return False
    return all([len(guess) < kept or len(guess) == kept and reason[0] == "pair"
                for guess, (_, reason) in thing.items()])


def least_kept(sketch):
    """The least kept with a doom within it, None if there is a fit."""
    need_sketch(sketch)
    if fit_without(sketch, []) is not None:
        return None
    # At the latest there is a doom when all unknown cells are kept in mind.
    kept = 1
    need_few(sketch, kept)
    while Memory(sketch, kept).lasting:
        kept += 1
        need_few(sketch, kept)
    return kept
