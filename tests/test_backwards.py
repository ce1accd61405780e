"""[82] Tables opened by two doors, and run backwards."""

import random
from itertools import permutations, product

from onestory.backwards import backwards, is_two_way, opened
from onestory.closings import held
from onestory.errors import BadTable, NotTwoWay, TooGreat
from onestory.tables import Table, quiet_table, ring_table, turning_table
from tests.samples import (ZERO_ALWAYS, Case, answered, brings, plain_fine, plain_hears, plain_stories, random_table,
                           rows, some_tables, whole_families, wrong_tables)

RING = ring_table((2, 2))
TURNING = turning_table()
# Fine and two-way; backwards room 1 hears itself.
CARRY = Table((2, 2, 2, 1), (1, 2, 2, 2), tuple((0, a, (a + b) % 2, c) for a, b, c, _ in rows((2, 2, 2, 1))))


def plain_opened(table):
    deliveries = rows(table.takes)
    sends = (len(deliveries),) + table.sends + (1,)
    every = rows(table.sends)
    lines = []
    for sent in rows(sends):
        own = sent[1:-1]
        received = [(note + more) % size
                    for note, more, size in zip(brings(table)[own], deliveries[sent[0]], table.takes)]
        lines.append((0, *received, every.index(own)))
    return Table(sends, (1,) + table.takes + (len(every),), tuple(lines))


def openable(table):
    return len(table.sends) <= 4 and len(table.notes) * len(rows(table.takes)) <= 64


def two_way_tables():
    """Two-way tables: rings, shuffled ones, and opened ones."""
    draw = random.Random(830)
    found = [RING, ring_table((2, 3, 2)), ring_table((3,)), CARRY, Table((4,), (4,), ((2,), (0,), (1,), (3,))),
             quiet_table((1, 1), (1, 1))]
    for sends, takes in [((2, 2), (2, 2)), ((2, 2), (4, 1)), ((4,), (4,)), ((2, 3), (3, 2)), ((2, 2, 2), (2, 4, 1)),
                         ((2, 2, 2), (2, 2, 2)), ((6, 1), (2, 3))]:
        for _ in range(4):
            notes = rows(takes)
            draw.shuffle(notes)
            found.append(Table(sends, takes, tuple(notes)))
    found += [plain_opened(table) for table in whole_families()[::40] + some_tables(1) if openable(table)]
    return found


class Opened(Case):
    def test_opened(self):
        many = 0
        for table in some_tables(1) + whole_families()[::3]:
            if openable(table):
                many += 1
                found = opened(table)
                self.assertEqual(found, plain_opened(table))
                self.assertEqual(plain_fine(found), plain_fine(table))
                self.assertIs(is_two_way(found), True)
                # With its doors held at 0 it is the table again.
                self.assertEqual(held(held(found, len(found.sends) - 1, 0), 0, 0), table)
                self.assertTrue(plain_fine(backwards(found)))
            else:
                self.refused(TooGreat, opened, table)
        self.assertGreater(many, 50)

    def test_by_hand(self):
        found = opened(table=ZERO_ALWAYS)
        self.assertEqual(found, Table((2, 2, 1), (1, 2, 2), ((0, 0, 0), (0, 0, 1), (0, 1, 0), (0, 1, 1))))

    def test_too_great(self):
        for table in [quiet_table((1,) * 5, (1,) * 5), quiet_table((64,), (2,)), quiet_table((1,), (64, )),
                      quiet_table((2,), (64,)), quiet_table((1, 1), (9, 8)), quiet_table((2,) * 6, (64,) * 6)]:
            if openable(table):
                self.assertEqual(opened(table), plain_opened(table))
            else:
                self.refused(TooGreat, opened, table)
        self.assertEqual(opened(quiet_table((1,), (64,))).sends, (64, 1, 1))
        self.assertEqual(opened(quiet_table((64,), (1,))).takes, (1, 1, 64))
        self.assertEqual(len(opened(quiet_table((1,) * 4, (1,) * 4)).sends), 6)
        self.refuses(opened, {"table": RING}, {"table": (BadTable, wrong_tables(RING))})


class Backwards(Case):
    def test_two_way(self):
        for table in some_tables(1) + whole_families() + two_way_tables():
            many = [list(table.notes).count(received) for received in product(*[range(n) for n in table.takes])]
            right = all(number == 1 for number in many)
            self.assertIs(is_two_way(table), right)
            if not right:
                self.refused(NotTwoWay, backwards, table)
        self.assertIs(is_two_way(table=quiet_table((2,), (1,))), False)
        self.assertIs(is_two_way(quiet_table((1,) * 6, (64,) * 6)), False)
        self.assertIs(is_two_way(Table((2,), (4,), ((3,), (1,)))), False)
        for function in (is_two_way, backwards):
            self.refuses(function, {"table": RING}, {"table": (BadTable, wrong_tables(RING))})

    def test_backwards(self):
        for table in two_way_tables():
            found = backwards(table)
            self.assertEqual((found.sends, found.takes), (table.takes, table.sends))
            for sent, received in brings(table).items():
                self.assertEqual(brings(found)[received], sent)
            self.assertEqual(backwards(table=found), table)

    def test_heart_stories_of_rules_that_are_one_to_one(self):
        for table in two_way_tables():
            if table.sends != table.takes or len(table.notes) > 16:
                continue
            back = backwards(table)
            for rules in list(product(*[list(permutations(range(size))) for size in table.sends]))[:200]:
                turned = tuple(tuple(rule.index(number) for number in range(len(rule))) for rule in rules)
                stories = plain_stories(table, rules)
                self.assertEqual(sorted(brings(table)[sent] for sent in stories), plain_stories(back, turned))
                self.assertTrue(all(answered(table, rules, sent) == sent for sent in stories))

    def test_by_hand(self):
        self.assertTrue(plain_fine(CARRY))
        found = backwards(CARRY)
        self.assertFalse(plain_fine(found))
        self.assertTrue(plain_hears(found, 1, 1))
        self.assertEqual(found.sends, (1, 2, 2, 2))
        draw = random.Random(831)
        table = random_table(draw, (2, 2), (2, 2))
        self.assertTrue(plain_fine(backwards(opened(table))))
