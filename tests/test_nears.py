"""[53] The fewest changes that make a table fine."""

import random

from onestory.errors import BadMany, BadMost, BadTable, TooMany
from onestory.nears import distance, far_paper, is_far_paper, is_near, near, nearest
from onestory.sketches import Sketch, guessed
from onestory.tables import Table, changed, quiet_table, ring_table, turning_table
from tests.samples import (OTHER_KINDS, ZERO_ALWAYS, Case, at_cell, blank_sketch, clocked_table, deep_value,
                           every_cell, every_table, fine_of, odd_three, otherwise, plain_fine, plain_unparted,
                           random_table, rows, same, some_tables, spark_four, whole_families, wrong_numbers,
                           wrong_tables)
from tests.test_sketches import open_cells, plain_dead, plain_guess

RING = ring_table((2, 2))
TURNING = turning_table()
THREE = ring_table((3,))


def unlike(one, other):
    return sum(note != told for here, there in zip(one.notes, other.notes) for note, told in zip(here, there))


def plain_distance(table):
    return min(unlike(table, other) for other in fine_of(table.sends, table.takes))


def plain_nearest(table):
    least = plain_distance(table)
    return [other for other in fine_of(table.sends, table.takes) if unlike(table, other) == least]


def plain_far_paper(table, many, thing):
    """Whether any value is a far paper of the table."""
    sketch = blank_sketch(table.sends, table.takes)
    if thing.__class__ is not dict or not any(same(key, ()) for key in thing):
        return False
    if not all(plain_guess(sketch, key) and is_rank(step) for key, step in thing.items()):
        return False
    return all(plain_reason(table, many, thing, key, *step) for key, step in thing.items())


def is_rank(step):
    return step.__class__ is tuple and len(step) == 2 and step[0].__class__ is int and step[0] >= 0


def plain_reason(table, many, thing, key, rank, reason):
    sketch = guessed(blank_sketch(table.sends, table.takes), key)
    if same(reason, ("far",)):
        return len([1 for cell, note in key if at_cell(table, cell) != note]) > many
    if any(same(reason, ("pair",) + pair) for pair in plain_dead(sketch)):
        return True
    if not any(same(reason, ("cell", cell)) for cell in open_cells(sketch)):
        return False
    return all(any(thing[part][0] < rank and set(part) <= set(key) | {(reason[1], note)} for part in thing)
               for note in range(table.takes[reason[1][1]]))


def disjoint_pairs(table):
    """So many unparted pairs without a sending in common, found greedily."""
    used = set()
    many = 0
    for one, other in plain_unparted(table):
        if one not in used and other not in used:
            used |= {one, other}
            many += 1
    return many


def left_over(table):
    """The cells that are left if each room keeps the note that stands in most of its cells."""
    many = 0
    for room in range(len(table.sends)):
        notes = [received[room] for received in table.notes]
        many += len(notes) - max(notes.count(note) for note in notes)
    return many


def small_tables():
    return whole_families()[::3] + [THREE, ring_table((2, 3)), ring_table((3, 2))]


def great_tables():
    draw = random.Random(53)
    return [odd_three(), ring_table((2, 2, 2)), ring_table((3, 3)), random_table(draw, (2, 2, 2), (2, 2, 2)), TURNING,
            ring_table((4, 4)), random_table(draw, (2, 3), (3, 2)), random_table(draw, (2, 1, 3), (2, 2, 2))]


class Nears(Case):
    def test_heart_a_near_fine_table_or_a_far_paper(self):
        for table in small_tables():
            least = plain_distance(table)
            for many in range(least + 2):
                found, reason = near(table, many), far_paper(table, many)
                self.assertEqual(found is None, many < least)
                self.assertEqual(reason is None, many >= least)
                if found is None:
                    self.assertIs(is_far_paper(table, many, reason), True)
                    self.assertTrue(plain_far_paper(table, many, reason))
                    self.assertEqual(list(reason), sorted(reason))
                else:
                    self.assertIn(found, fine_of(table.sends, table.takes))
                    self.assertTrue(unlike(table, found) <= many)
                    self.assertIs(is_near(table, many, found), True)
            self.assertEqual(distance(table), least)
            self.assertEqual(nearest(table, 20000), plain_nearest(table))

    def test_greater_tables(self):
        for table in great_tables():
            least = distance(table)
            found = near(table, least)
            self.assertTrue(plain_fine(found))
            self.assertEqual(unlike(table, found), least)
            self.assertIsNone(far_paper(table, least))
            if least:
                self.assertIsNone(near(table, least - 1))
                reason = far_paper(table, least - 1)
                self.assertIs(is_far_paper(table, least - 1, reason), True)
                self.assertIs(is_far_paper(table, least, reason), False)
                for less in range(least - 1):
                    self.assertIs(is_far_paper(table, less, far_paper(table, less)), True)
            every = nearest(table, 20000)
            self.assertIn(found.notes, [other.notes for other in every])
            self.assertTrue(all(plain_fine(other) and unlike(table, other) == least for other in every))
            self.assertTrue(len(every) == 1 or self.refused(TooMany, nearest, table, len(every) - 1))

    def test_by_hand(self):
        self.assertEqual(distance(table=RING), 2)
        self.assertEqual(len(nearest(table=RING, most=4)), 4)
        self.assertEqual(self.refused(TooMany, nearest, RING, 3).most, 3)
        self.assertEqual(distance(THREE), 2)
        self.assertEqual(nearest(THREE, 3), [Table((3,), (3,), ((note,),) * 3) for note in range(3)])
        self.assertEqual(near(table=TURNING, many=0), TURNING)
        self.assertIsNone(far_paper(table=TURNING, many=0))
        self.assertEqual(distance(TURNING), 0)
        self.assertEqual(nearest(TURNING, 1), [TURNING])
        self.assertEqual(near(TURNING, 99).sends, (2, 2, 2))
        self.assertEqual(distance(odd_three()), 6)
        self.assertEqual(distance(ring_table((8, 4))), 24)
        self.assertEqual(distance(ZERO_ALWAYS), 0)
        self.assertEqual(distance(ring_table((2,))), 1)
        self.assertEqual(distance(quiet_table((2,) * 6, (2,) * 6)), 0)
        self.assertEqual(nearest(quiet_table((1,), (3,)), 1), [quiet_table((1,), (3,))])

    def test_just_enough_and_one_less(self):
        self.assertIsNone(near(RING, 1))
        self.assertIsNotNone(near(RING, 2))
        self.assertIsNotNone(near(RING, 99))
        self.assertIsNone(far_paper(RING, 2))
        self.assertIsNone(far_paper(RING, 99))
        paper = far_paper(RING, 1)
        self.assertIs(is_far_paper(table=RING, many=1, thing=paper), True)
        self.assertIs(is_far_paper(RING, 2, paper), False)
        self.assertIs(is_far_paper(RING, 99, paper), False)
        self.assertIs(is_far_paper(RING, 0, paper), True)
        self.assertIs(is_far_paper(quiet_table((2, 2), (2, 2)), 1, paper), False)

    def test_facts(self):
        draw = random.Random(54)
        more = 0
        for table in small_tables() + great_tables():
            least = distance(table)
            self.assertTrue(disjoint_pairs(table) <= least <= left_over(table))
            more += least > disjoint_pairs(table)
            at = draw.choice(rows(table.sends))
            room = draw.randrange(len(table.sends))
            other = changed(table, at, room, draw.randrange(table.takes[room]))
            self.assertTrue(abs(distance(other) - least) <= 1)
        self.assertGreater(more, 0)

    def test_is_near(self):
        for table in [RING, Table((2, 2), (2, 2), ((0, 0), (1, 0), (1, 1), (1, 1)))]:
            for thing in every_table((2, 2), (2, 2)):
                for many in (0, 1, 2, 3, 99):
                    right = plain_fine(thing) and unlike(table, thing) <= many
                    self.assertIs(is_near(table, many, thing), right)
        quiet = quiet_table((2, 2), (2, 2))
        self.assertIs(is_near(table=quiet, many=0, thing=quiet), True)
        for value in OTHER_KINDS + [quiet_table((2, 2), (2, 3)), quiet_table((4,), (2,)), quiet_table((2, 2), (2, 1)),
                                    Sketch((2, 2), (2, 2), quiet.notes), quiet_table((2, 2, 1), (2, 2, 2)),
                                    quiet_table((4, 1), (2, 2)), quiet_table((1, 4), (2, 2)),
                                    deep_value()]:
            self.assertIs(is_near(quiet, 99, value), False)

    def test_wrong_values(self):
        wrong = [value for value in wrong_numbers(100)] + [100, -1]
        for function in (near, far_paper):
            self.refuses(function, {"table": RING, "many": 1},
                         {"table": (BadTable, wrong_tables(RING)), "many": (BadMany, wrong)})
        for function in (is_near, is_far_paper):
            self.refuses(function, {"table": RING, "many": 1, "thing": None},
                         {"table": (BadTable, wrong_tables(RING)), "many": (BadMany, wrong)})
        self.refuses(distance, {"table": RING}, {"table": (BadTable, wrong_tables(RING))})
        self.refuses(nearest, {"table": RING, "most": 4},
                     {"table": (BadTable, wrong_tables(RING)), "most": (BadMost, [0] + wrong_numbers(20001))})
        self.assertEqual(len(nearest(RING, 20000)), 4)

    def test_many_nearest(self):
        # Any note of 64 will do for what is received in all of 8 cells: 7 of them change.
        eight = Table((8,), (64,), tuple((note,) for note in range(8)))
        self.assertEqual(distance(eight), 7)
        self.assertEqual(len(nearest(eight, 8)), 8)
        self.assertEqual(distance(spark_four()), 0)
        led = clocked_table(random.Random(55), (2,) * 6, (2,) * 6)
        other = changed(led, (0,) * 6, 0, 1 - led.notes[0][0])
        self.assertEqual(distance(other), 1)
        self.assertIn(led, nearest(other, 20000))
        # Many more changes than are needed.
        for many in (1, 20, 99):
            self.assertTrue(is_near(other, many, near(other, many)))
            self.assertIsNone(far_paper(other, many))
        self.assertIs(is_far_paper(other, 0, far_paper(other, 0)), True)


class FarPapers(Case):
    def test_one_thing_otherwise_at_any_place(self):
        judged = {True: 0, False: 0}
        for table, many in [(RING, 1), (RING, 0), (THREE, 1), (ring_table((2,)), 0), (ring_table((2, 1)), 0),
                            (Table((2, 2), (2, 2), ((0, 0), (1, 0), (1, 1), (1, 1))), 0)]:
            paper = far_paper(table, many)
            if paper is None:
                continue
            for value in otherwise(paper)[::1 if len(paper) < 9 else 7]:
                for more in (many, many + 1):
                    right = plain_far_paper(table, more, value)
                    judged[right] += 1
                    self.assertIs(is_far_paper(table, more, value), right, value)
        self.assertTrue(judged[True] > 30 and judged[False] > 300, judged)

    def test_judged(self):
        table = ring_table((2,))
        cells = every_cell(table)
        right = {(): (2, ("cell", cells[0])), ((cells[0], 1),): (0, ("far",)),
                 ((cells[0], 0),): (1, ("cell", cells[1])), ((cells[1], 0),): (0, ("far",)),
                 ((cells[0], 0), (cells[1], 1)): (0, ("pair", (0,), (1,)))}
        wrong = [{}, {(): (0, ("far",))}, {**right, ((cells[0], 0),): (0, ("far",))}, list(right),
                 {**right, ((cells[0], 1),): (0, ("far", 1))}, {**right, ((cells[0], 1),): (0, "far")},
                 {**right, ((cells[0], 1),): (0, ["far"])}, {**right, ((cells[0], 1),): (0, ("own",))},
                 {**right, ((cells[0], 1),): (0, ())}, {**right, ((cells[0], 1),): (True, ("far",))}]
        self.judges(is_far_paper, (table, 0), [right], wrong)
        self.judges(is_far_paper, (table, 1), [], [right] + wrong)

    def test_some_great_ones(self):
        for table in some_tables(1)[:20]:
            least = distance(table)
            if 0 < least < 9:
                paper = far_paper(table, least - 1)
                self.assertIs(is_far_paper(table, least - 1, paper), True)
                self.assertEqual(list(paper), sorted(paper))
