"""Sketches: tables with unknown cells, the fine tables that agree with them, and guesses at them."""

from itertools import combinations

from onestory.errors import BadCell, BadCells, BadGuess, BadNote, BadNotes, BadSends, BadSketch, BadTakes
from onestory.fine import is_fine
from onestory.shapes import are_sends, are_takes, is_below, is_row, multiplied, place, put_in, rows
from onestory.tables import Table, need_table


class Sketch:
    """What the rooms can send and receive, and for each sending and room a note, or None where it is unknown."""

    def __init__(self, sends, takes, notes):
        if not are_sends(sends):
            raise BadSends("no tuple of what one to six rooms can send")
        if not are_takes(takes, len(sends)):
            raise BadTakes("no tuple of what these rooms can receive")
        if not are_known_notes(sends, takes, notes):
            raise BadNotes("no tuple with a note or None for each room, for each sending")
        self.sends = sends
        self.takes = takes
        self.notes = notes

    def __eq__(self, other):
        return (isinstance(other, Sketch) and self.sends == other.sends and self.takes == other.takes
                and self.notes == other.notes)


def are_known_notes(sends, takes, thing):
    """Whether it is a tuple with one tuple for each sending, with a note or None for each room."""
    if not isinstance(thing, tuple) or len(thing) != multiplied(sends):
        return False
    return all([is_known_row(received, takes) for received in thing])


def is_known_row(thing, takes):
    if not isinstance(thing, tuple) or len(thing) != len(takes):
        return False
    return all([note is None or is_below(note, size) for note, size in zip(thing, takes)])


def need_sketch(sketch):
    if not isinstance(sketch, Sketch):
        raise BadSketch("no Sketch")


def is_cell(shape, thing):
    """Whether any value is a cell of a table or a sketch."""
    if not isinstance(thing, tuple) or len(thing) != 2:
        return False
    return is_row(thing[0], shape.sends) and is_below(thing[1], len(shape.sends))


def are_cells(shape, thing):
    """Whether any value is an ascending tuple of different cells of a table or a sketch."""
    if not isinstance(thing, tuple) or not all([is_cell(shape, cell) for cell in thing]):
        return False
    return ascends(thing)


def ascends(things):
    """Whether each of these, which can be compared, is greater than the one ahead of it."""
    return all([one < other for one, other in zip(things[:-1], things[1:])])


def all_cells(shape):
    """The ascending list of all cells of a table or a sketch."""
    return [(sent, room) for sent in rows(shape.sends) for room in range(len(shape.sends))]


def note_in(shape, cell):
    """What stands in a cell of a table or a sketch; the cell is not checked."""
    sent, room = cell
    return shape.notes[place(shape.sends, sent)][room]


def with_notes(sketch, guess):
    """The Sketch with these notes in these cells, which are not checked."""
    notes = list(sketch.notes)
    for (sent, room), note in guess:
        at = place(sketch.sends, sent)
        notes[at] = put_in(notes[at], room, note)
    return Sketch(sketch.sends, sketch.takes, tuple(notes))


def blank_of(shape):
    """The Sketch with the sizes of a table or a sketch and nothing known."""
    return Sketch(shape.sends, shape.takes, ((None,) * len(shape.sends),) * len(shape.notes))


def sketch_with(table, cells):
    """The Sketch in which just these cells are known, with the notes of the table; what is passed is not checked."""
    return with_notes(blank_of(table), [(cell, note_in(table, cell)) for cell in cells])


def sketch_of(table, cells):
    """The Sketch in which just these cells are known, with the notes of the table."""
    need_table(table)
    if not are_cells(table, cells):
        raise BadCells("no ascending tuple of different cells")
    return sketch_with(table, cells)


def put(sketch, cell, note):
    """The Sketch with this note in the cell, None for an unknown one."""
    need_sketch(sketch)
    if not is_cell(sketch, cell):
        raise BadCell("no cell of the sketch")
    if note is not None and not is_below(note, sketch.takes[cell[1]]):
        raise BadNote("no note that the room of the cell can receive")
    return with_notes(sketch, [(cell, note)])


def open_cells(sketch):
    """The ascending list of the unknown cells."""
    need_sketch(sketch)
    return [cell for cell in all_cells(sketch) if note_in(sketch, cell) is None]


def agrees_with(sketch, table):
    """Whether the table has the sizes of the sketch and, in each known cell, its note."""
    if table.sends != sketch.sends or table.takes != sketch.takes:
        return False
    return all([note is None or note == told for here, there in zip(sketch.notes, table.notes)
                for note, told in zip(here, there)])


def is_fit(sketch, thing):
    """Whether any value is a fine table that agrees with the sketch."""
    need_sketch(sketch)
    return isinstance(thing, Table) and agrees_with(sketch, thing) and is_fine(thing)


def is_guess(sketch, thing):
    """Whether any value is an ascending tuple of different unknown cells, each with a note of its room."""
    if not isinstance(thing, tuple) or not all([is_guess_pair(sketch, pair) for pair in thing]):
        return False
    return ascends([cell for cell, _ in thing])


def is_guess_pair(sketch, thing):
    if not isinstance(thing, tuple) or len(thing) != 2:
        return False
    cell, note = thing
    return is_cell(sketch, cell) and note_in(sketch, cell) is None and is_below(note, sketch.takes[cell[1]])


def guessed(sketch, guess):
    """The Sketch with all notes of the guess put."""
    need_sketch(sketch)
    if not is_guess(sketch, guess):
        raise BadGuess("no ascending tuple of unknown cells with notes")
    return with_notes(sketch, guess)


def is_dead(line, then):
    """Whether two sendings, each with what is known of its delivery, are a dead pair."""
    one, here = line
    other, there = then
    return all([note is not None and there[room] is not None and note != there[room]
                for room, note in enumerate(here) if one[room] != other[room]])


def dead_pair(sketch):
    """The first pair of sendings that no room can part, whatever the unknown cells are; None if there is none."""
    need_sketch(sketch)
    lines = list(zip(rows(sketch.sends), sketch.notes))
    for line, then in combinations(lines, 2):
        if is_dead(line, then):
            return (line[0], then[0])
    return None
