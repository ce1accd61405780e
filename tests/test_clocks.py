import random
from itertools import product

from onestory.clocks import clock, first_rooms, hears, is_clock, is_knot, knot, knots
from onestory.errors import BadHeld, BadTable
from onestory.tables import Table, quiet_table, ring_table, turning_table
from tests.samples import OTHER_KINDS, ZERO_ALWAYS, Case, brings, clocked_table, deep_value, every_rules, odd_three
from tests.samples import plain_fine, plain_hears, plain_stories, random_table, some_tables, spark_four
from tests.samples import whole_families, wrong_numbers, wrong_tables

TURNING = turning_table()
RING = ring_table((2, 2))
QUIET = quiet_table((2, 1), (1, 1))
BY_HAND = ("first", 0, 0, (("first", 1, 0, (("done",),)), ("first", 1, 0, (("done",),))))
OTHER_WAY = ("first", 1, 0, (("first", 0, 0, (("done",), ("done",))),))
GREAT = [ring_table((2,) * 6), quiet_table((2,) * 6, (2,) * 6), quiet_table((64,), (2,)), ring_table((64,)),
         ring_table((4, 4, 4)), ring_table((8, 8)), ring_table((1, 64)), quiet_table((1,) * 6, (1,) * 6)]


def plain_firsts(table, held):
    lines = [received for sent, received in brings(table).items() if all(sent[k] == held[k] for k in held)]
    return [room for room in range(len(table.sends))
            if room not in held and len({received[room] for received in lines}) == 1]


def every_held(table):
    found = []
    for row in product(*[[None] + list(range(sent)) for sent in table.sends]):
        found.append({room: number for room, number in enumerate(row) if number is not None})
    return found


def plain_knots(table):
    found = [held for held in every_held(table) if len(held) < len(table.sends) and not plain_firsts(table, held)]
    return sorted(found, key=lambda held: (len(held), sorted(held.items())))


def every_clock(table, held, most=40):
    """All clocks for what is left, or some of them."""
    if len(held) == len(table.sends):
        return [("done",)]
    found = []
    for room in plain_firsts(table, held):
        lines = [received for sent, received in brings(table).items() if all(sent[k] == held[k] for k in held)]
        trees = [every_clock(table, {**held, room: number}, 4) for number in range(table.sends[room])]
        found += [("first", room, lines[0][room], way) for way in list(product(*trees))[:most]]
    return found[:most]


def led_to(table, tree, rules):
    """The sending at which a clock comes by the rules."""
    sent = {}
    while tree != ("done",):
        _, room, note, trees = tree
        sent[room] = rules[room][note]
        tree = trees[sent[room]]
    return tuple(sent[room] for room in range(len(sent)))


class Hears(Case):
    def test_all_pairs(self):
        for table in whole_families() + some_tables(2):
            rooms = range(len(table.sends))
            self.assertEqual(hears(table), [(a, b) for a in rooms for b in rooms if plain_hears(table, a, b)])
        self.assertEqual(hears(table=RING), [(0, 1), (1, 0)])
        self.assertEqual(hears(ring_table((2,))), [(0, 0)])
        self.assertEqual(hears(ring_table((2, 1, 2))), [(0, 1), (2, 0)])
        self.assertEqual(hears(TURNING), [(0, 1), (0, 2), (1, 0), (1, 2), (2, 0), (2, 1)])
        self.assertEqual(hears(ring_table((2,) * 6)), [(0, 1), (1, 2), (2, 3), (3, 4), (4, 5), (5, 0)])
        self.assertEqual(hears(QUIET), [])

    def test_wrong_tables(self):
        for function in (hears, clock, knots, knot):
            self.refuses(function, {"table": RING}, {"table": (BadTable, wrong_tables(RING))})
        for function in (is_clock, is_knot):
            self.refuses(function, {"table": RING, "thing": {}}, {"table": (BadTable, wrong_tables(RING))})


def wrong_held(table):
    """What is no dict from rooms to numbers that they can send."""
    many = len(table.sends)
    found = [None, True, 0, "", (), [], ((0, 0),), [(0, 0)], {many: 0}, {-1: 0}, {False: 0}, {"0": 0}, {None: 0},
             {(0,): 0}, {0: 0, "more": 0}, {0: 0, many: 0}, table, (table,), deep_value()]
    if many > 1:
        found += [{True: 0}, {0: 0, True: 0}]
    for room in range(many):
        found += [{room: wrong} for wrong in wrong_numbers(table.sends[room])]
        found += [{**{k: 0 for k in range(many)}, room: wrong} for wrong in wrong_numbers(table.sends[room])]
    return found


class FirstRooms(Case):
    def test_with_all_that_is_held(self):
        for table in whole_families() + some_tables(1):
            for held in every_held(table):
                backwards = {room: held[room] for room in sorted(held, reverse=True)}
                self.assertEqual(first_rooms(table, held), plain_firsts(table, held))
                self.assertEqual(first_rooms(table, backwards), plain_firsts(table, held))

    def test_by_hand(self):
        self.assertEqual(first_rooms(table=TURNING, held={}), [])
        self.assertEqual(first_rooms(table=TURNING, held={0: 0}), [1])
        self.assertEqual(first_rooms(TURNING, {0: 1}), [2])
        self.assertEqual(first_rooms(TURNING, {0: 1, 1: 0, 2: 0}), [])
        # A room that can send one number only is asked, too.
        self.assertEqual(first_rooms(ring_table((2, 1)), {}), [0])
        self.assertEqual(first_rooms(ring_table((2, 1)), {0: 1}), [1])

    def test_a_first_room_stays_first(self):
        for table in some_tables(1):
            for held in every_held(table):
                for room in plain_firsts(table, held):
                    for other in range(len(table.sends)):
                        if other != room and other not in held:
                            self.assertIn(room, first_rooms(table, {**held, other: 0}))

    def test_wrong_values(self):
        for table in (RING, QUIET, ZERO_ALWAYS):
            self.refuses(first_rooms, {"table": table, "held": {0: 0}},
                         {"table": (BadTable, wrong_tables(table)), "held": (BadHeld, wrong_held(table))})


class ClocksAndKnots(Case):
    def test_heart_a_clock_or_a_knot(self):
        led = 0
        for table in whole_families() + some_tables(3):
            tree, tied = clock(table), knots(table)
            self.assertEqual(tied, plain_knots(table))
            self.assertEqual(knot(table), tied[0] if tied else None)
            self.assertEqual(tree is None, tied != [])
            for held in tied:
                self.assertEqual(list(held), sorted(held))
                self.assertIs(is_knot(table, held), True)
                self.assertIs(is_knot(table, {room: held[room] for room in sorted(held, reverse=True)}), True)
            if tree is not None:
                led += 1
                self.assertIs(is_clock(table, tree), True)
                self.assertTrue(plain_fine(table))
                self.least_first(table, tree, {})
        self.assertGreater(led, 50)

    def least_first(self, table, tree, held):
        if len(held) == len(table.sends):
            self.assertEqual(tree, ("done",))
            return
        word, room, note, trees = tree
        self.assertEqual((word, room), ("first", plain_firsts(table, held)[0]))
        lines = {received[room] for sent, received in brings(table).items() if all(sent[k] == held[k] for k in held)}
        self.assertEqual({note}, lines)
        self.assertEqual(len(trees), table.sends[room])
        self.assertIs(trees.__class__, tuple)
        for number, below in enumerate(trees):
            self.least_first(table, below, {**held, room: number})

    def test_the_story_is_where_the_clock_leads(self):
        for table in whole_families() + some_tables(2):
            tree = clock(table)
            if tree is not None:
                for rules in every_rules(table)[:100]:
                    self.assertEqual([led_to(table, tree, rules)], plain_stories(table, rules))

    def test_a_knot_of_a_fine_table_leaves_three_rooms_that_can_send_two_numbers(self):
        tied = 0
        for table in whole_families() + some_tables(4):
            wide = [room for room, sent in enumerate(table.sends) if sent > 1]
            if plain_fine(table):
                for held in knots(table):
                    tied += 1
                    self.assertTrue(len([room for room in wide if room not in held]) >= 3)
            if len(wide) <= 2:
                self.assertEqual(clock(table) is not None, plain_fine(table))
        self.assertGreater(tied, 0)

    def test_by_hand(self):
        self.assertEqual(clock(table=QUIET), BY_HAND)
        self.assertEqual(knots(table=QUIET), [])
        self.assertIsNone(knot(table=QUIET))
        self.assertIsNone(clock(RING))
        self.assertEqual(knots(RING), [{}])
        self.assertEqual(knot(RING), {})
        self.assertIsNone(clock(TURNING))
        self.assertEqual(knots(TURNING), [{}])
        self.assertEqual(clock(ZERO_ALWAYS), ("first", 0, 0, (("done",), ("done",))))
        self.assertEqual(knots(ring_table((2,))), [{}])
        self.assertIsNone(clock(spark_four()))

    def test_the_order_of_knots(self):
        self.assertEqual(knots(odd_three()), [{}, {0: 0}, {0: 1}, {1: 0}, {1: 1}, {2: 0}, {2: 1}])
        own = Table((2, 2), (2, 2), ((0, 0), (0, 1), (1, 0), (1, 1)))
        self.assertEqual(knots(own), [{}, {0: 0}, {0: 1}, {1: 0}, {1: 1}])
        draw = random.Random(22)
        for sends in [(2, 2, 2), (3, 2, 2), (2, 2, 2, 2), (1, 3, 2)]:
            for _ in range(5):
                table = random_table(draw, sends, (2,) * len(sends))
                self.assertEqual(knots(table), plain_knots(table))

    def test_great_tables(self):
        draw = random.Random(23)
        for table in GREAT + [clocked_table(draw, (2,) * 6, (2,) * 6), clocked_table(draw, (4, 4, 4), (3, 3, 3))]:
            tree = clock(table)
            tied = plain_knots(table)
            self.assertEqual(knots(table), tied)
            self.assertEqual(tree is None, tied != [])
            self.assertTrue(tree is None or is_clock(table, tree))

    def test_results_are_new(self):
        found = knots(RING)
        found[0][0] = 1
        found.append("changed")
        self.assertEqual(knots(RING), [{}])
        knot(RING)[0] = 1
        self.assertEqual(knot(RING), {})


class Judged(Case):
    def test_all_clocks(self):
        seen = 0
        for table in whole_families() + some_tables(1):
            found = every_clock(table, {})
            seen += len(found) > 1
            for tree in found:
                self.assertIs(is_clock(table, tree), True)
        self.assertGreater(seen, 20)

    def test_is_clock(self):
        leaf = ("first", 1, 0, (("done",),))
        wrong = [("done",), list(BY_HAND), BY_HAND + ((),), BY_HAND[:3], ("last",) + BY_HAND[1:], BY_HAND[1:],
                 ("first", 0, 0, [leaf, leaf]), ("first", 0, 0, (leaf,)), ("first", 0, 0, (leaf, leaf, leaf)),
                 ("first", 0, 0, (leaf, ("done",))), ("first", 0, 0, (leaf, BY_HAND)), ("first", 0, 0, leaf),
                 ("first", 0, 0, (leaf, list(leaf))), ("first", 0, 0, (leaf, ("first", 1, 0, (("done", 0),)))),
                 ("first", 0, 0, (leaf, ("first", 1, 0, (["done"],)))), ("first", 0, 0, ()), ("first", 0, 0, None),
                 ("first", 0, 0, (leaf, ("first", 1, 0, ()))), ("first", 0, 0, (leaf, ("first", 1, 0, ((),)))),
                 ("first", 0, 0, (leaf, ("first", 0, 0, (leaf, leaf)))), ("first", 0, 0, {0: leaf, 1: leaf}),
                 (None, 0, 0, (leaf, leaf)), (ZERO_ALWAYS, 0, 0, (leaf, leaf)), ("first", 0, 0, (leaf, None))]
        wrong += [("first", room, 0, (leaf, leaf)) for room in wrong_numbers(1)]
        wrong += [("first", 0, note, (leaf, leaf)) for note in wrong_numbers(1)]
        wrong += [("first", 0, 0, (leaf, ("first", True, 0, (("done",),))))]
        wrong += [("first", 0, 0, (leaf, ("first", 1, False, (("done",),))))]
        self.judges(is_clock, (QUIET,), [BY_HAND, OTHER_WAY], wrong)

    def test_a_room_must_be_first_with_its_note(self):
        table = Table((2, 2), (2, 2), ((0, 0), (0, 0), (0, 1), (0, 1)))
        done = (("done",), ("done",))
        good = ("first", 0, 0, (("first", 1, 0, done), ("first", 1, 1, done)))
        wrong = [("first", 0, 1, good[3]), ("first", 0, 0, good[3][::-1]), ("first", 0, 0, (good[3][0],) * 2),
                 ("first", 1, 0, (("first", 0, 0, done),) * 2), ("first", 1, 1, (("first", 0, 0, done),) * 2),
                 ("first", 0, 0, (("first", 1, 0, done), ("first", 1, True, done)))]
        self.judges(is_clock, (table,), [good], wrong)
        self.judges(is_clock, (RING,), [], [good, ("first", 0, 0, (("first", 1, 0, done), ("first", 1, 1, done)))])

    def test_is_knot(self):
        for table in [RING, TURNING, odd_three(), QUIET, ring_table((2, 2, 2)), ring_table((2,))]:
            tied = plain_knots(table)
            for held in every_held(table):
                self.assertIs(is_knot(table, held), held in tied)
            for wrong in wrong_held(table):
                self.assertIs(is_knot(table, wrong), False)
            for value in OTHER_KINDS:
                if value != {} and value != {0: 0}:
                    self.assertIs(is_knot(table, value), False)
        self.assertIs(is_knot(thing={1: 0}, table=odd_three()), True)
        self.assertIs(is_knot(odd_three(), {True: 0}), False)
        self.assertIs(is_knot(odd_three(), {1: False}), False)
        self.assertIs(is_knot(odd_three(), {1: [0]}), False)
