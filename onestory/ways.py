"""Whether the unknown cells of a sketch can be filled so that the table is fine: fits, or a doom."""

from onestory.dooms import doom_of, is_doom_of, no_end, sendings_used
from onestory.errors import BadMost, NoFit, TooMany
from onestory.every import every_fit
from onestory.search import Search
from onestory.shapes import is_number, rows
from onestory.sketches import Sketch, all_cells, need_sketch, note_in, with_notes
from onestory.stories import need_rules

MOST_FITS = 20000


def fit_without(sketch, outs):
    """A fit that has none of the notes that are out, open; None if there is none; what is passed is not checked.

    A note that is out is a pair of a cell's place among all cells and the note.
    """
    search = Search(sketch)
    return search.fit() if search.works_out(outs) else None


def some_fit(sketch):
    """A fit of the sketch, None if there is none."""
    need_sketch(sketch)
    return fit_without(sketch, [])


def doom(sketch):
    """A doom of the sketch, None if there is a fit."""
    need_sketch(sketch)
    search = Search(sketch)
    return None if search.works_out([]) else doom_of(search)


def is_doom(sketch, thing):
    """Whether any value is a doom of the sketch."""
    need_sketch(sketch)
    return is_doom_of(sketch, thing, no_end)


def need_most(most):
    if not is_number(most) or not 1 <= most <= MOST_FITS:
        raise BadMost("no number from 1 to 20000")


def fits(sketch, most):
    """The list of all fits, ascending by their notes."""
    need_sketch(sketch)
    need_most(most)
    search = Search(sketch)
    found = every_fit(search, most)
    if found is None:
        raise TooMany(most)
    return [search.table_of(notes) for notes in sorted(found)]


def sure(sketch):
    """The Sketch in which just those cells are known in which all fits have the same note."""
    need_sketch(sketch)
    fit = fit_without(sketch, [])
    if fit is None:
        raise NoFit("the sketch has no fit")
    cells = all_cells(sketch)
    left = [cell for cell in range(len(cells)) if note_in(sketch, cells[cell]) is None]
    told = []
    while left:
        cell = left[0]
        note = note_in(fit, cells[cell])
        other = fit_without(sketch, [(cell, note)])
        if other is None:
            told.append((cells[cell], note))
            left = left[1:]
        else:
            left = [at for at in left if note_in(other, cells[at]) == note_in(fit, cells[at])]
    return with_notes(sketch, told)


def crux(sketch):
    """What is left if each known cell in turn is made unknown unless there is a fit then; None if there is a fit."""
    need_sketch(sketch)
    used = cells_used(sketch)
    if used is None:
        return None
    left = sketch
    for cell in known_cells(sketch):
        less = with_notes(left, [(cell, None)])
        # What a doom does not use may be made unknown: it stays a doom.
        if cell in used:
            used_then = cells_used(less)
            if used_then is None:
                continue
            used = used_then
        left = less
    return left


def known_cells(sketch):
    """The ascending list of the known cells."""
    return [cell for cell in all_cells(sketch) if note_in(sketch, cell) is not None]


def cells_used(sketch):
    """The dict of cells, with True, that has all those that a doom of the sketch uses; None if there is a fit."""
    search = Search(sketch)
    if search.works_out([]):
        return None
    return {(sent, room): True for sent in sendings_used(search) for room in range(len(sketch.sends))}


def is_crux(sketch, thing):
    """Whether any value is a Sketch with known cells of this one, without a fit, but with one if any is unknown."""
    need_sketch(sketch)
    if not isinstance(thing, Sketch) or thing.sends != sketch.sends or thing.takes != sketch.takes:
        return False
    cells = known_cells(thing)
    if not all([note_in(thing, cell) == note_in(sketch, cell) for cell in cells]):
        return False
    if fit_without(thing, []) is not None:
        return False
    return all([fit_without(with_notes(thing, [(cell, None)]), []) is not None for cell in cells])


def story_fits(sketch, rules):
    """The ascending dict from each sending that is the story in some fit to such a fit."""
    need_sketch(sketch)
    need_rules(sketch, rules)
    found = {}
    for at, sent in enumerate(rows(sketch.sends)):
        fit = fit_with_story(sketch, rules, at, sent)
        if fit is not None:
            found[sent] = fit
    return found


def fit_with_story(sketch, rules, at, sent):
    """A fit in which the sending at this place is a story of the rules; None if there is none."""
    unlike = [(room, note) for room, rule in enumerate(rules) for note, number in enumerate(rule)
              if number != sent[room]]
    known = sketch.notes[at]
    if [1 for room, note in unlike if known[room] == note]:
        return None
    return fit_without(sketch, [(at * len(known) + room, note) for room, note in unlike if known[room] is None])
