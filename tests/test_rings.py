"""[41] Fixed orders and rings."""

import random
from itertools import permutations

from onestory.clocks import clock, is_clock
from onestory.errors import BadRing, BadTable
from onestory.rings import fixed_order, is_fixed_order, lone_rings, ring_none, ring_two, rings
from onestory.tables import Table, quiet_table, ring_table, turning_table
from tests.samples import (GUARDED, ZERO_ALWAYS, Case, deep_value, every_rules, odd_three, otherwise, plain_fine,
                           plain_hears, plain_stories, random_table, same, some_tables, spark_four, whole_families,
                           wired_table, wrong_numbers, wrong_tables)

RING = ring_table((2, 2))
TURNING = turning_table()


def heard_pairs(table):
    rooms = range(len(table.sends))
    return [(a, b) for a in rooms for b in rooms if plain_hears(table, a, b)]


def is_order(pairs, order):
    return all(order.index(a) < order.index(b) for a, b in pairs)


def plain_orders(table):
    pairs = heard_pairs(table)
    return [order for order in permutations(range(len(table.sends))) if is_order(pairs, order)]


def plain_rings(table):
    pairs = heard_pairs(table)
    rooms = len(table.sends)
    return [ring for size in range(1, rooms + 1) for ring in permutations(range(rooms), size)
            if ring[0] == min(ring) and all((ring[at - 1], ring[at]) in pairs for at in range(size))]


def plain_lone(table):
    pairs = heard_pairs(table)
    rooms = range(len(table.sends))
    return [ring for ring in plain_rings(table)
            if all(len([1 for b in ring if (a, b) in pairs]) < 2 for a in rooms)]


def wired_tables(many):
    """Tables in which rooms hear few others, themselves perhaps."""
    draw = random.Random(41)
    found = []
    for sends, takes in [((2, 2, 2), (2, 2, 2)), ((2, 3, 2), (3, 2, 2)), ((2, 2, 2, 2), (2, 2, 2, 2)),
                         ((2, 1, 2, 2), (2, 2, 2, 1)), ((3, 2), (2, 3)), ((2, 2, 1, 2, 2), (2,) * 5)]:
        for _ in range(many):
            rooms = range(len(sends))
            wires = [sorted(draw.sample(rooms, draw.choice((0, 1, 1, 2)))) for _ in rooms]
            found.append(wired_table(draw, sends, takes, wires))
    return found


TABLES = whole_families() + some_tables(1) + GUARDED + wired_tables(12)


class Orders(Case):
    def test_the_least_order_of_all(self):
        led = 0
        for table in TABLES:
            orders = plain_orders(table)
            led += len(orders) > 1
            found = fixed_order(table)
            self.assertTrue(same(found, orders[0] if orders else None))
            for order in permutations(range(len(table.sends))):
                self.assertIs(is_fixed_order(table, order), order in orders)
        self.assertGreater(led, 20)

    def test_by_hand(self):
        self.assertEqual(fixed_order(table=quiet_table((2, 2, 2), (1, 1, 1))), (0, 1, 2))
        # Room 0 hears room 1, and room 1 hears room 2.
        table = Table((2, 2, 2), (2, 2, 1), tuple((b, c, 0) for a in (0, 1) for b in (0, 1) for c in (0, 1)))
        self.assertEqual(fixed_order(table), (2, 1, 0))
        self.assertIs(is_fixed_order(table=table, thing=(2, 1, 0)), True)
        self.assertIs(is_fixed_order(table, (0, 1, 2)), False)
        self.assertEqual(fixed_order(ring_table((2, 1))), (0, 1))
        self.assertIsNone(fixed_order(ring_table((2,))))
        self.assertEqual(fixed_order(ZERO_ALWAYS), (0,))
        self.assertIsNone(fixed_order(TURNING))
        self.assertEqual(fixed_order(ring_table((1,) * 6)), (0, 1, 2, 3, 4, 5))

    def test_judged(self):
        quiet = quiet_table((2, 1, 3), (1, 2, 2))
        orders = list(permutations(range(3)))
        wrong = [(0, 1), (0, 1, 1), (0, 0, 0), (0, 1, 2, 3), (1, 2, 3), (0, 1, 2, 2), [0, 1, 2], (False, True, 2)]
        wrong += [value for order in orders for value in otherwise(order) if value not in orders]
        self.judges(is_fixed_order, (quiet,), orders, wrong)
        self.judges(is_fixed_order, (RING,), [], [(0, 1), (1, 0)])
        self.judges(is_fixed_order, (quiet_table((2,), (1,)),), [(0,)], [(1,), (False,), [0], 0, (0, 0)])

    def test_a_fixed_order_is_that_of_some_clock_on_each_way(self):
        for table in TABLES[:300] + wired_tables(5):
            for order in permutations(range(len(table.sends))):
                self.assertIs(is_fixed_order(table, order), is_clock(table, ordered_clock(table, order)))


def ordered_clock(table, order, sent=()):
    """The tree with the rooms in this order on each way, as if it were a clock."""
    if len(sent) == len(order):
        return ("done",)
    held = dict(zip(order, sent))
    lines = [received for at, received in zip(range(len(table.notes)), table.notes)
             if all(sending_at(table, at)[room] == number for room, number in held.items())]
    room = order[len(sent)]
    return ("first", room, lines[0][room],
            tuple(ordered_clock(table, order, sent + (number,)) for number in range(table.sends[room])))


def sending_at(table, at):
    found = []
    for size in reversed(table.sends):
        found.append(at % size)
        at = at // size
    return tuple(reversed(found))


class Rings(Case):
    def test_all_rings_and_the_lone_ones(self):
        many = 0
        for table in TABLES:
            self.assertTrue(same(rings(table), plain_rings(table)))
            lone = lone_rings(table)
            self.assertTrue(same(lone, plain_lone(table)))
            many += len(lone) > 1
        self.assertGreater(many, 10)

    def test_by_hand(self):
        self.assertEqual(rings(table=RING), [(0, 1)])
        self.assertEqual(lone_rings(table=RING), [(0, 1)])
        self.assertEqual(rings(ring_table((2,))), [(0,)])
        self.assertEqual(rings(TURNING), [(0, 1), (0, 2), (1, 2), (0, 1, 2), (0, 2, 1)])
        self.assertEqual(lone_rings(TURNING), [])
        self.assertEqual(lone_rings(odd_three()), [])
        self.assertFalse(plain_fine(odd_three()))
        self.assertEqual(rings(ring_table((2, 1, 2))), [])
        self.assertEqual(rings(ring_table((2,) * 6)), [(0, 1, 2, 3, 4, 5)])
        # All hear all: 6 + 15 + 20 * 2 + 15 * 6 + 6 * 24 + 120 rings.
        everywhere = random_table(random.Random(3), (2,) * 6, (2,) * 6)
        self.assertEqual(len(rings(everywhere)), 415)
        self.assertEqual(lone_rings(everywhere), [(0,), (1,), (2,), (3,), (4,), (5,)])

    def test_heart_an_order_or_a_ring_never_both(self):
        for table in TABLES:
            self.assertEqual(fixed_order(table) is None, rings(table) != [])
            if plain_fine(table):
                self.assertEqual(lone_rings(table), [])

    def test_each_ring_is_lone_if_no_room_is_heard_by_two(self):
        seen = 0
        for table in TABLES:
            speakers = [a for a, _ in heard_pairs(table)]
            if len(speakers) == len(set(speakers)):
                seen += 1
                self.assertEqual(lone_rings(table), rings(table))
                self.assertEqual(plain_fine(table), fixed_order(table) is not None)
        self.assertGreater(seen, 50)

    def test_an_order_makes_a_clock(self):
        for table in TABLES:
            if fixed_order(table) is not None:
                self.assertIsNotNone(clock(table))


class LoneRings(Case):
    def outside_constant(self, table, ring, rules):
        for room, rule in enumerate(rules):
            if room not in ring:
                self.assertEqual(len(set(rule)), 1)

    def test_heart_rules_with_two_stories_and_with_none(self):
        seen = 0
        for table in TABLES + [ring_table((2,) * 6), ring_table((3, 2, 4)), ring_table((4, 1, 4)), ring_table((64,))]:
            for ring in plain_lone(table):
                seen += 1
                found = ring_two(table, ring)
                self.assertIs(found.__class__, tuple)
                rules, one, other = found
                self.assertTrue(one < other)
                self.assertTrue(same(plain_stories(table, rules), [one, other]))
                self.assertEqual([room for room in range(len(one)) if one[room] != other[room]], sorted(ring))
                self.outside_constant(table, ring, rules)
                rules = ring_none(table, ring)
                self.assertIs(rules.__class__, tuple)
                self.assertEqual(plain_stories(table, rules), [])
                self.outside_constant(table, ring, rules)
                if len(table.notes) < 9:
                    self.assertIn(rules, every_rules(table))
        self.assertGreater(seen, 100)

    def test_by_hand(self):
        self.assertEqual(ring_two(table=RING, ring=(0, 1))[1:], ((0, 0), (1, 1)))
        self.assertIn(ring_none(table=RING, ring=(0, 1)), [((0, 1), (1, 0)), ((1, 0), (0, 1))])
        self.assertEqual(ring_two(ring_table((2,)), (0,)), (((0, 1),), (0,), (1,)))
        self.assertEqual(ring_none(ring_table((2,)), (0,)), ((1, 0),))

    def test_wrong_values(self):
        for function in (ring_two, ring_none):
            for table in (RING, ring_table((2, 2, 2))):
                ring = tuple(range(len(table.sends)))
                wrong = [value for value in otherwise(ring) if value != ring or value.__class__ is not tuple]
                wrong += [True, 0, "ring", (), (0,), (0, True), (False, 1), ring[::-1], [0, 1], deep_value(), table]
                wrong = [value for value in wrong if not same(value, ring)]
                self.refuses(function, {"table": table, "ring": ring},
                             {"table": (BadTable, wrong_tables(table)), "ring": (BadRing, wrong)})
            self.refused(BadRing, function, TURNING, (0, 1))
            self.refused(BadRing, function, TURNING, (0, 1, 2))
            self.refused(BadRing, function, quiet_table((2, 2), (1, 1)), (0, 1))
            for wrong in wrong_numbers(1):
                self.refused(BadRing, function, ring_table((2,)), (wrong,))
                if wrong != (0,):
                    self.refused(BadRing, function, ring_table((2,)), wrong)

    def test_wrong_tables(self):
        for function in (fixed_order, rings, lone_rings):
            self.refuses(function, {"table": RING}, {"table": (BadTable, wrong_tables(RING))})
        self.refuses(is_fixed_order, {"table": RING, "thing": (0, 1)}, {"table": (BadTable, wrong_tables(RING))})

    def test_spark_four_has_rings_but_no_lone_one(self):
        self.assertNotEqual(rings(spark_four()), [])
        self.assertEqual(lone_rings(spark_four()), [])
