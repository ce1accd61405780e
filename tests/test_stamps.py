"""[54] What a fine table cannot do without: stamps, locks and stamp papers."""

import random
from itertools import combinations

from onestory.classes import classes
from onestory.errors import BadCells, BadMany, BadTable, NotFine
from onestory.fine import is_fine
from onestory.sketches import guessed, sketch_of
from onestory.stamps import (fewest_stamp, is_lock, is_stamp, is_stamp_paper, lock, needed, other_fit, stamp,
                             stamp_paper)
from onestory.tables import Table, quiet_table, ring_table, turning_table
from tests.samples import (OTHER_KINDS, ZERO_ALWAYS, Case, agree, at_cell, clocked_table, deep_value, every_cell,
                           every_table, fine_of, fine_tables, otherwise, plain_fine, same, spark_four, wrong_numbers,
                           wrong_tables)
from tests.test_sketches import open_cells, plain_cells, wrong_cells
from tests.test_ways import plain_doom

RING = ring_table((2, 2))
TURNING = turning_table()
QUIET = quiet_table((2, 2), (2, 2))
LED = Table((2, 2), (2, 2), ((0, 0), (0, 0), (0, 1), (0, 1)))
THREE = (((0, 0), 0), ((0, 0), 1), ((1, 0), 1))
SIZES = [((2,), (2,)), ((3,), (3,)), ((1,), (3,)), ((1, 2), (2, 2)), ((2, 2), (2, 1)), ((2, 2), (2, 2)),
         ((2, 2), (2, 3)), ((3, 2), (2, 2)), ((1, 1), (2, 3)), ((1, 2, 2), (2, 2, 1))]


def small_fine(many):
    """Some fine tables of each of the small sizes."""
    draw = random.Random(540)
    return [table for sends, takes in SIZES
            for table in draw.sample(fine_of(sends, takes), min(many, len(fine_of(sends, takes))))]


def plain_other_fits(table, cells):
    sketch = sketch_of(table, cells)
    return [other for other in fine_of(table.sends, table.takes) if agree(sketch, other) and other != table]


def unlike_cells(one, other):
    return [cell for cell in every_cell(one) if at_cell(one, cell) != at_cell(other, cell)]


def plain_fewest(table):
    lots = [unlike_cells(table, other) for other in fine_of(table.sends, table.takes) if other != table]
    cells = every_cell(table)
    for many in range(len(cells) + 1):
        for chosen in combinations(cells, many):
            if all(any(cell in chosen for cell in lot) for lot in lots):
                return many
    return None


def own_ends(table, cells):
    """The reason of a lock that a doom has not, with its guess."""
    own = tuple((cell, at_cell(table, cell)) for cell in every_cell(table) if cell not in cells)
    return [(own, ("own",))]


def plain_stamp_paper(table, many, thing):
    if thing.__class__ is not dict or not any(same(key, ()) for key in thing):
        return False
    for key, other in thing.items():
        if not plain_cells(table, key) or len(key) > many or not isinstance(other, Table):
            return False
        if (other.sends, other.takes) != (table.sends, table.takes) or other == table or not plain_fine(other):
            return False
        unlike = unlike_cells(table, other)
        if any(cell in unlike for cell in key):
            return False
        if len(key) < many and not all(tuple(sorted(key + (cell,))) in thing for cell in unlike):
            return False
    return True


class Stamps(Case):
    def test_heart_another_fit_or_a_lock(self):
        draw = random.Random(541)
        seen = {True: 0, False: 0}
        for table in small_fine(5):
            cells = every_cell(table)
            lots = [(), tuple(cells), stamp(table)]
            lots += [tuple(sorted(draw.sample(cells, draw.randrange(len(cells) + 1)))) for _ in range(6)]
            for lot in lots:
                right = plain_other_fits(table, lot)
                found, reason = other_fit(table, lot), lock(table, lot)
                seen[right != []] += 1
                self.assertEqual(found is None, right == [])
                self.assertEqual(reason is None, right != [])
                self.assertIs(is_stamp(table, lot), right == [])
                if found is not None:
                    self.assertIn(found, right)
                else:
                    self.assertIs(is_lock(table, lot, reason), True)
                    self.assertTrue(plain_doom(sketch_of(table, lot), reason, own_ends(table, lot)))
                    self.assertEqual(list(reason), sorted(reason))
        self.assertTrue(min(seen.values()) > 50)

    def test_greater_tables(self):
        draw = random.Random(542)
        tables = fine_tables(1) + [clocked_table(draw, (2,) * 4, (2,) * 4), clocked_table(draw, (4, 4), (3, 2))]
        for table in tables:
            cells = every_cell(table)
            for lot in [stamp(table), tuple(sorted(draw.sample(cells, len(cells) // 2)))]:
                found, reason = other_fit(table, lot), lock(table, lot)
                self.assertEqual(found is None, reason is not None)
                self.assertIs(is_stamp(table, lot), found is None)
                if found is not None:
                    self.assertTrue(plain_fine(found) and found != table and agree(sketch_of(table, lot), found))
                else:
                    self.assertIs(is_lock(table, lot, reason), True)

    def test_fewest_stamps(self):
        for table in small_fine(4):
            many = fewest_stamp(table)
            self.assertEqual(many, plain_fewest(table))
            found = stamp(table)
            self.assertTrue(plain_cells(table, found))
            self.assertEqual(len(found), many)
            self.assertEqual(plain_other_fits(table, found), [])

    def test_heart_a_stamp_or_a_stamp_paper(self):
        for table in small_fine(4):
            many = fewest_stamp(table)
            for more in range(many + 2):
                paper = stamp_paper(table, more)
                self.assertEqual(paper is None, more >= many)
                if paper is not None:
                    self.assertIs(is_stamp_paper(table, more, paper), True)
                    self.assertTrue(plain_stamp_paper(table, more, paper))
                    self.assertEqual(list(paper), sorted(paper))
        self.assertIsNone(stamp_paper(QUIET, 99))

    def test_of_greater_tables(self):
        for table in [TURNING] + fine_tables(1)[:8]:
            many = fewest_stamp(table)
            found = stamp(table)
            self.assertEqual(len(found), many)
            self.assertIs(is_stamp(table, found), True)
            for more in (0, 1, min(3, many - 1)):
                paper = stamp_paper(table, more)
                self.assertIs(is_stamp_paper(table, more, paper), True)
                self.assertTrue(plain_stamp_paper(table, more, paper))
        paper = stamp_paper(TURNING, fewest_stamp(TURNING) - 1)
        self.assertTrue(is_stamp_paper(TURNING, 5, paper) and plain_stamp_paper(TURNING, 5, paper))

    def test_needed(self):
        for table in small_fine(6):
            right = [cell for cell in every_cell(table)
                     if plain_other_fits(table, tuple(other for other in every_cell(table) if other != cell))]
            self.assertTrue(same(needed(table), right))
        self.assertEqual(needed(TURNING), [])
        self.assertEqual(needed(table=quiet_table((1, 2), (2, 2))), [((0, 0), 0), ((0, 1), 0)])
        self.assertEqual(needed(quiet_table((1, 1), (2, 1))), [((0, 0), 0)])

    def test_by_hand(self):
        self.assertEqual(fewest_stamp(table=QUIET), 4)
        self.assertEqual(fewest_stamp(table=LED), 3)
        self.assertIs(is_stamp(table=LED, thing=THREE), True)
        self.assertIs(is_stamp(LED, THREE[:2]), False)
        self.assertIs(is_lock(table=LED, cells=THREE, thing=lock(table=LED, cells=THREE)), True)
        self.assertIsNone(other_fit(table=LED, cells=THREE))
        self.assertEqual(len(stamp(table=TURNING)), 6)
        self.assertEqual(fewest_stamp(quiet_table((2, 2), (1, 1))), 0)
        self.assertEqual(stamp(quiet_table((2, 2), (1, 1))), ())
        self.assertIsNone(stamp_paper(quiet_table((2, 2), (1, 1)), 0))
        self.assertEqual(len(lock(quiet_table((1,), (1,)), ())), 2)
        whole = tuple(every_cell(TURNING))
        self.assertEqual(lock(TURNING, whole), {(): (0, ("own",))})
        self.assertIsNone(lock(TURNING, ()))
        self.assertEqual(stamp_paper(ZERO_ALWAYS, 0), {(): Table((2,), (2,), ((1,), (1,)))})
        self.assertEqual(fewest_stamp(ZERO_ALWAYS), 1)
        self.assertEqual(fewest_stamp(spark_four()), 20)

    def test_facts(self):
        draw = random.Random(543)
        for table in small_fine(3) + [TURNING]:
            found = stamp(table)
            more = tuple(sorted(set(found) | set(draw.sample(every_cell(table), 1))))
            self.assertIs(is_stamp(table, more), True)
            lots = [(room, lot) for room, taken in enumerate(table.takes) if taken > 1 for lot in classes(table, room)]
            for room, lot in lots:
                self.assertTrue(any(k == room and sent[:room] + sent[room + 1:] in lot for sent, k in found))
            self.assertTrue(len(found) >= len(lots))

    def test_wrong_values(self):
        for function in (fewest_stamp, stamp, needed):
            self.refuses(function, {"table": LED}, {"table": (BadTable, wrong_tables(LED))})
            self.refused(NotFine, function, RING)
        self.refuses(is_stamp, {"table": LED, "thing": ()}, {"table": (BadTable, wrong_tables(LED))})
        self.refused(NotFine, is_stamp, RING, ())
        for function, more in [(lock, {}), (other_fit, {}), (is_lock, {"thing": {}})]:
            self.refuses(function, {"table": LED, "cells": (), **more},
                         {"table": (BadTable, wrong_tables(LED)), "cells": (BadCells, wrong_cells(LED))})
            # What is wrong with the table comes ahead of what is wrong with the cells.
            self.refused(NotFine, function, RING, None, *more.values())
        wrong = [-1, 100] + wrong_numbers(100)
        for function, more in [(stamp_paper, {}), (is_stamp_paper, {"thing": {}})]:
            self.refuses(function, {"table": LED, "many": 1, **more},
                         {"table": (BadTable, wrong_tables(LED)), "many": (BadMany, wrong)})
            self.refused(NotFine, function, RING, 100, *more.values())
        self.assertTrue(is_fine(LED))


class Judged(Case):
    def test_is_stamp(self):
        for table in (LED, QUIET, ZERO_ALWAYS):
            cells = every_cell(table)
            for many in range(len(cells) + 1):
                for lot in list(combinations(cells, many))[:30]:
                    self.assertIs(is_stamp(table, lot), plain_other_fits(table, lot) == [])
        wrong = [value for value in otherwise(THREE) if not plain_cells(LED, value)] + [list(THREE), THREE[::-1]]
        right = [value for value in otherwise(THREE) if plain_cells(LED, value) and not plain_other_fits(LED, value)]
        self.judges(is_stamp, (LED,), [THREE] + right, wrong)

    def test_locks_with_one_thing_otherwise(self):
        judged = {True: 0, False: 0}
        for table in small_fine(1):
            cells = stamp(table)
            found = lock(table, cells)
            if len(found) > 12:
                continue
            for value in otherwise(found):
                right = plain_doom(sketch_of(table, cells), value, own_ends(table, cells))
                judged[right] += 1
                self.assertIs(is_lock(table, cells, value), right, value)
        self.assertTrue(min(judged.values()) > 50, judged)

    def test_own_and_far(self):
        cells = (((0,), 0),)
        last = ((1,), 0)
        right = {(): (1, ("cell", last)), ((last, 0),): (0, ("own",)), ((last, 1),): (0, ("pair", (0,), (1,)))}
        wrong = [{}, {(): (0, ("own",))}, {**right, ((last, 0),): (0, ("far",))},
                 {**right, ((last, 1),): (0, ("own",))},
                 {**right, ((last, 0),): (0, ["own"])}, {**right, ((last, 0),): (0, ("own", 0))},
                 {**right, ((last, 0),): (0, "own")}, {**right, ((last, 0),): (1, ("own",))}]
        self.judges(is_lock, (ZERO_ALWAYS, cells), [right], wrong)
        self.judges(is_lock, (ZERO_ALWAYS, ()), [], [right])
        self.judges(is_lock, (ZERO_ALWAYS, (((0,), 0), last)), [{(): (0, ("own",))}, {(): (7, ("own",))}], [right])

    def test_stamp_papers_with_one_thing_otherwise(self):
        judged = {True: 0, False: 0}
        for table in small_fine(2) + [LED, QUIET]:
            for many in range(3):
                paper = stamp_paper(table, many)
                if paper is None or len(paper) > 4:
                    continue
                values = otherwise(paper) + [paper]
                for key in paper:
                    values += [{**paper, key: other} for other in fine_of(table.sends, table.takes)]
                    values += [{**paper, key: other} for other in every_table(table.sends, table.takes)[::5]]
                    values.append({**paper, key: quiet_table(table.sends, table.takes + ())})
                    values.append({**paper, key: quiet_table(table.sends, tuple(t + 1 for t in table.takes))})
                values += [{**paper, (cell,): other} for cell in every_cell(table)
                           for other in fine_of(table.sends, table.takes)[:3]]
                for value in values:
                    for more in (many, many + 1):
                        right = plain_stamp_paper(table, more, value)
                        judged[right] += 1
                        self.assertIs(is_stamp_paper(table, more, value), right, (value, more))
        self.assertTrue(min(judged.values()) > 100, judged)

    def test_stamp_papers_judged(self):
        paper = stamp_paper(LED, 1)
        self.judges(is_stamp_paper, (LED, 1), [paper], [{}, list(paper), {(): LED}, {(): RING}, {(): None}, {(): ()}])
        for value in [Table((1, 4), (2, 2), ((0, 0), (1, 0), (0, 0), (0, 0))), quiet_table((2, 2), (2, 3)),
                      quiet_table((4, 1), (2, 2)), Table((2, 2), (3, 2), ((2, 0),) * 4)]:
            self.assertTrue(plain_fine(value))
            self.assertIs(is_stamp_paper(QUIET, 0, {(): value}), False)
        self.judges(is_stamp_paper, (LED, 0), [stamp_paper(LED, 0)], [paper] + OTHER_KINDS + [deep_value()])
        self.assertEqual(guessed(sketch_of(LED, THREE), ()), sketch_of(LED, THREE))
        self.assertEqual(len(open_cells(sketch_of(LED, THREE))), 5)
