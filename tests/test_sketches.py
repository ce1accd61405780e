"""[50] Sketches, cells, guesses and dead pairs."""

import random
from itertools import combinations, product

from onestory.errors import (BadCell, BadCells, BadGuess, BadNote, BadNotes, BadSends, BadSketch, BadTable, BadTakes)
from onestory.sketches import Sketch, dead_pair, guessed, is_fit, open_cells, put, sketch_of
from onestory.tables import Table, quiet_table, ring_table, turning_table
from tests.samples import (OTHER_KINDS, ZERO_ALWAYS, Case, at_cell, blank_sketch, brings, deep_value, every_cell,
                           every_table, fine_of, otherwise, partly_known, plain_fine, random_sketch, rows, same,
                           some_tables, whole_families, wrong_numbers, wrong_sketches, wrong_tables)

RING = ring_table((2, 2))
TURNING = turning_table()
HALF = Sketch((2, 2), (2, 2), ((0, 0), (1, None), (None, 1), (None, None)))
OPEN = [((0, 1), 1), ((1, 0), 0), ((1, 1), 0), ((1, 1), 1)]
KNOWN = (((0, 0), 0), ((0, 0), 1), ((0, 1), 0), ((1, 0), 1))
TALL = Sketch((2,), (3,), ((2,), (None,)))


def with_put(sketch, cell, note):
    lines = brings(sketch)
    received = list(lines[cell[0]])
    received[cell[1]] = note
    lines[cell[0]] = tuple(received)
    return Sketch(sketch.sends, sketch.takes, tuple(lines.values()))


def plain_dead(sketch):
    lines = brings(sketch)
    found = []
    for one, other in combinations(sorted(lines), 2):
        unlike = [(lines[one][k], lines[other][k]) for k in range(len(one)) if one[k] != other[k]]
        if all(here is not None and there is not None and here != there for here, there in unlike):
            found.append((one, other))
    return found


def plain_guess(sketch, thing):
    """Whether any value is a guess at the sketch."""
    if thing.__class__ is not tuple:
        return False
    right = [(cell, note) for cell in every_cell(sketch) if at_cell(sketch, cell) is None
             for note in range(sketch.takes[cell[1]])]
    if not all(any(same(pair, other) for other in right) for pair in thing):
        return False
    cells = [cell for cell, _ in thing]
    return cells == sorted(cells) and len(set(cells)) == len(cells)


def every_guess(sketch, most):
    cells = open_cells(sketch)
    return [tuple(zip(lot, notes)) for size in range(most + 1) for lot in combinations(cells, size)
            for notes in product(*[range(sketch.takes[room]) for _, room in lot])]


def some_sketches(many, seed=50):
    draw = random.Random(seed)
    found = [HALF, TALL, blank_sketch((2, 2), (2, 2)), blank_sketch((1,), (1,)), blank_sketch((2, 1, 2), (3, 1, 2))]
    for sends, takes in [((2, 2), (2, 2)), ((3,), (3,)), ((2, 3), (2, 2)), ((2, 2, 2), (2, 2, 2)), ((1, 2), (3, 2)),
                         ((4, 2), (2, 3))]:
        found += [random_sketch(draw, sends, takes, share) for share in (30, 60, 80, 100) for _ in range(many)]
    return found


def wrong_cells(shape):
    """What is no ascending tuple of different cells."""
    cells = every_cell(shape)
    found = [value for value in otherwise(tuple(cells[:3])) if not plain_cells(shape, value)]
    return found + [None, True, 0, cells[0], list(cells), [()], (None,), ((),), (cells[0], cells[0]), tuple(cells[::-1])
                    if len(cells) > 1 else None, {cells[0]: True}, deep_value()]


def plain_cells(shape, thing):
    if thing.__class__ is not tuple or not all(any(same(cell, other) for other in every_cell(shape)) for cell in thing):
        return False
    return list(thing) == sorted(set(thing))


class Sketches(Case):
    def test_attributes_and_equality(self):
        self.assertTrue(same((HALF.sends, HALF.takes), ((2, 2), (2, 2))))
        self.assertTrue(same(HALF.notes, ((0, 0), (1, None), (None, 1), (None, None))))
        again = Sketch(notes=HALF.notes, takes=(2, 2), sends=(2, 2))
        self.assertTrue(again == HALF and not again != HALF)
        for sends, takes, notes in [((2, 2), (2, 2), HALF.notes[:3] + ((None, 0),)), ((2, 2), (2, 3), HALF.notes),
                                    ((4,), (2,), ((0,), (1,), (None,), (None,))), ((1, 4), (2, 2), HALF.notes)]:
            self.assertFalse(Sketch(sends, takes, notes) == HALF)
            self.assertTrue(Sketch(sends, takes, notes) != HALF)
        whole = Sketch(RING.sends, RING.takes, RING.notes)
        self.assertFalse(whole == RING or RING == whole)
        for value in OTHER_KINDS:
            self.assertFalse(HALF == value)
        self.assertIn("__eq__", vars(Sketch))

    def test_wrong_values(self):
        good = {"sends": (2, 3), "takes": (2, 2), "notes": ((0, None),) * 6}
        wrong_sends = [None, True, 0, (), [2, 3], (2,) * 7, (0, 3), (65,), (2, True), (8, 9), ("2", 3), {2: 3}]
        wrong_takes = [None, 2, (), [2, 2], (2,), (2, 2, 2), (0, 2), (65, 2), (True, 2), (2, None)]
        wrong_notes = [None, 0, (), [(0, None)] * 6, ((0, None),) * 5, ((0, None),) * 7, ([0, None],) * 6,
                       ((0, None), (0,)) + ((0, None),) * 4, ((0, None, 0),) * 6]
        wrong_notes += [((0, None),) * 5 + ((wrong, None),) for wrong in wrong_numbers(2) if wrong is not None]
        wrong_notes += [((0, None),) * 5 + ((0, wrong),) for wrong in wrong_numbers(2) if wrong is not None]
        wrong_notes += [value for value in otherwise(good["notes"])
                        if not (value.__class__ is tuple and len(value) == 6)]
        self.refuses(Sketch, good, {"sends": (BadSends, wrong_sends), "takes": (BadTakes, wrong_takes),
                                    "notes": (BadNotes, wrong_notes)})

    def test_sketch_of(self):
        draw = random.Random(51)
        for table in whole_families()[::5] + some_tables(1):
            cells = every_cell(table)
            for many in {0, 1, len(cells) // 2, len(cells)}:
                lot = tuple(sorted(draw.sample(cells, many)))
                found = sketch_of(table, lot)
                self.assertEqual((found.sends, found.takes), (table.sends, table.takes))
                self.assertTrue(all(same(at_cell(found, cell), at_cell(table, cell) if cell in lot else None)
                                    for cell in cells))
        self.assertEqual(sketch_of(table=Table((2, 2), (2, 2), ((0, 0), (1, 0), (0, 1), (1, 1))), cells=KNOWN), HALF)
        self.assertEqual(sketch_of(RING, ()), blank_sketch((2, 2), (2, 2)))
        for table in (RING, ZERO_ALWAYS):
            self.refuses(sketch_of, {"table": table, "cells": ()},
                         {"table": (BadTable, wrong_tables(table)), "cells": (BadCells, wrong_cells(table))})

    def test_put_and_open_cells(self):
        draw = random.Random(52)
        for sketch in some_sketches(1):
            unknown = [cell for cell in every_cell(sketch) if at_cell(sketch, cell) is None]
            self.assertTrue(same(open_cells(sketch), unknown))
            for cell in draw.sample(every_cell(sketch), min(4, len(every_cell(sketch)))):
                for note in [None] + list(range(sketch.takes[cell[1]])):
                    before = sketch.notes
                    self.assertEqual(put(sketch, cell, note), with_put(sketch, cell, note))
                    self.assertEqual(sketch.notes, before)
        self.assertEqual(open_cells(sketch=HALF), OPEN)
        self.assertEqual(put(sketch=TALL, cell=((1,), 0), note=1).notes, ((2,), (1,)))
        self.assertEqual(put(TALL, ((0,), 0), None).notes, ((None,), (None,)))

    def test_put_refuses(self):
        for sketch, cell in [(HALF, ((0, 1), 1)), (TALL, ((0,), 0))]:
            wrong = [value for value in otherwise(cell) if not any(same(value, right) for right in every_cell(sketch))]
            notes = [note for note in wrong_numbers(sketch.takes[cell[1]]) if note is not None]
            self.refuses(put, {"sketch": sketch, "cell": cell, "note": 0},
                         {"sketch": (BadSketch, wrong_sketches(sketch)), "cell": (BadCell, wrong + [None, 0, ()]),
                          "note": (BadNote, notes)})
        for function in (open_cells, dead_pair):
            self.refuses(function, {"sketch": HALF}, {"sketch": (BadSketch, wrong_sketches(HALF))})

    def test_is_fit(self):
        for sketch in [HALF, blank_sketch((2, 2), (2, 2)), put(HALF, ((1, 1), 0), 1), sketch_of(RING, KNOWN[:3]),
                       TALL, random_sketch(random.Random(1), (2, 2), (2, 2), 20)]:
            fits = 0
            for table in every_table(sketch.sends, sketch.takes):
                right = plain_fine(table) and all(at_cell(sketch, cell) in (None, at_cell(table, cell))
                                                  for cell in every_cell(sketch))
                fits += right
                self.assertIs(is_fit(sketch, table), right)
            for value in OTHER_KINDS + [Sketch(RING.sends, RING.takes, RING.notes), deep_value()]:
                if not isinstance(value, Table) or value.sends != sketch.sends:
                    self.assertIs(is_fit(sketch, value), False)
        quiet = quiet_table((2, 2), (2, 2))
        self.assertIs(is_fit(sketch=blank_sketch((2, 2), (2, 2)), thing=quiet), True)
        for sends, takes in [((2, 2), (2, 3)), ((2, 2), (2, 1)), ((4, 1), (2, 2)), ((2, 2, 1), (2, 2, 2))]:
            self.assertIs(is_fit(blank_sketch(sends, takes), quiet), False)
        self.assertIs(is_fit(sketch_of(quiet, tuple(every_cell(quiet))), quiet), True)
        self.refuses(is_fit, {"sketch": HALF, "thing": RING}, {"sketch": (BadSketch, wrong_sketches(HALF))})

    def test_guessed(self):
        for sketch in [HALF, TALL, blank_sketch((2,), (2,)), blank_sketch((2, 1), (1, 3))]:
            for guess in every_guess(sketch, 3):
                wanted = sketch
                for cell, note in guess:
                    wanted = with_put(wanted, cell, note)
                self.assertEqual(guessed(sketch, guess), wanted)
        self.assertEqual(guessed(sketch=HALF, guess=()), HALF)

    def test_guessed_refuses(self):
        for sketch, guess in [(HALF, ((OPEN[0], 1), (OPEN[2], 0), (OPEN[3], 0))), (TALL, ((((1,), 0), 2),))]:
            wrong = [value for value in otherwise(guess) if not plain_guess(sketch, value)]
            wrong += [None, True, 0, "guess", [()], (None,), list(guess), guess[::-1] + guess, ((KNOWN[0], 0),),
                      (guess[0], guess[0]), (guess[0], (guess[0][0], 0)), dict(guess), (guess,), deep_value()]
            wrong += [((guess[0][0], note),) for note in wrong_numbers(sketch.takes[guess[0][0][1]])]
            self.refuses(guessed, {"sketch": sketch, "guess": guess},
                         {"sketch": (BadSketch, wrong_sketches(sketch)), "guess": (BadGuess, wrong)})

    def test_dead_pair(self):
        dead = 0
        for sketch in some_sketches(10):
            found = plain_dead(sketch)
            dead += len(found) > 1
            self.assertTrue(same(dead_pair(sketch), found[0] if found else None))
        self.assertGreater(dead, 20)
        self.assertIsNone(dead_pair(sketch=HALF))
        self.assertEqual(dead_pair(sketch=put(HALF, ((1, 1), 0), 0)), ((0, 1), (1, 1)))
        self.assertEqual(dead_pair(Sketch((2,), (2,), ((0,), (1,)))), ((0,), (1,)))
        self.assertIsNone(dead_pair(Sketch((2,), (2,), ((0,), (None,)))))
        self.assertIsNone(dead_pair(Sketch((1,), (2,), ((0,),))))
        self.assertIsNone(dead_pair(blank_sketch((2,) * 6, (2,) * 6)))

    def test_a_sketch_with_a_dead_pair_has_no_fit(self):
        for sketch in some_sketches(6):
            if len(rows(sketch.sends)) > 4:
                continue
            fits = [table for table in fine_of(sketch.sends, sketch.takes) if is_fit(sketch, table)]
            self.assertTrue(not fits or dead_pair(sketch) is None)
            if open_cells(sketch) == []:
                self.assertEqual(fits == [], dead_pair(sketch) is not None)

    def test_whole_sketches_are_fine_without_a_dead_pair(self):
        for table in whole_families() + some_tables(2):
            whole = sketch_of(table, tuple(every_cell(table)))
            self.assertEqual(dead_pair(whole) is None, plain_fine(table))
            self.assertEqual(open_cells(whole), [])
            part = partly_known(random.Random(5), table, 50)
            self.assertTrue(dead_pair(part) is None or not plain_fine(table))
