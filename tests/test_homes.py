"""[43] Homes: basins, home trees and wheels."""

import random
from itertools import product

from onestory.clocks import clock
from onestory.errors import BadTable, BadTold, TooMany
from onestory.homes import basin, home_tree, is_home_tree, wheel
from onestory.stories import all_rules
from onestory.tables import Table, quiet_table, ring_table, turning_table
from onestory.walks import is_wheel, spark_table, walk
from tests.samples import (GUARDED, OTHER_KINDS, ZERO_ALWAYS, Case, brings, clocked_table, deep_value, every_rules,
                           otherwise, plain_fine, plain_stories, random_table, rows, same, some_tables, spark_four,
                           whole_families, wrong_numbers, wrong_tables)

TURNING = turning_table()
RING = ring_table((2, 2))
FOUR = ((0, 0, 0, 0), (1, 0, 1, 1), (0, 1, 0, 0), (0, 0, 1, 0))
SMALL = ("tell", 0, 0, (("home", (0,)), ("home", (1,))))


def plain_answers(table, told, sending):
    """The possible answers of a sending."""
    received = brings(table)[sending]
    return set(product(*[[told[room, note]] if (room, note) in told else range(table.sends[room])
                         for room, note in enumerate(received)]))


def plain_basin(table, told):
    left = rows(table.sends)
    answers = {sent: plain_answers(table, told, sent) for sent in left}
    while True:
        more = [sent for sent in left if any(sent in answers[other] for other in left)]
        if more == left:
            return left
        left = more


def every_hearing(table):
    return [(room, note) for room, taken in enumerate(table.takes) for note in range(taken)]


def random_told(draw, table):
    pairs = [pair for pair in every_hearing(table) if draw.random() < 0.6]
    draw.shuffle(pairs)
    return {pair: draw.randrange(table.sends[pair[0]]) for pair in pairs}


def told_whole(table, rules):
    return {(room, note): rules[room][note] for room, note in every_hearing(table)}


def plain_home_tree(table, thing, told):
    if thing.__class__ is not tuple or not thing or thing[0].__class__ is not str:
        return False
    if thing[0] == "home":
        return len(thing) == 2 and same([thing[1]], plain_basin(table, told))
    if thing[0] != "tell" or len(thing) != 4:
        return False
    pair = thing[1:3]
    if not any(same(pair, other) for other in every_hearing(table)) or pair in told:
        return False
    if thing[3].__class__ is not tuple or len(thing[3]) != table.sends[pair[0]]:
        return False
    return all(plain_home_tree(table, tree, {**told, pair: number}) for number, tree in enumerate(thing[3]))


def round_somewhere(table):
    """Whether the walks by some rules do not come home, or not all to the same sending."""
    for rules in every_rules(table):
        homes = {tuple(walk(table, rules, sending)[1]) for sending in rows(table.sends)}
        if len(homes) > 1 or len(homes.pop()) > 1:
            return True
    return False


def homes_of(table, tree, rules):
    while tree[0] == "tell":
        _, room, note, trees = tree
        tree = trees[rules[room][note]]
    return tree[1]


def clock_homes(tree, held, rooms):
    """The home tree that a clock makes."""
    if tree == ("done",):
        return ("home", tuple(held[room] for room in range(rooms)))
    _, room, note, trees = tree
    return ("tell", room, note, tuple(clock_homes(below, {**held, room: number}, rooms)
                                      for number, below in enumerate(trees)))


def every_home_tree(table, told, most):
    """Some home trees for what is told, those too that tell more than they must."""
    left = plain_basin(table, told)
    found = [("home", left[0])] if len(left) == 1 else []
    for room, note in every_hearing(table):
        if (room, note) not in told:
            ways = [every_home_tree(table, {**told, (room, note): number}, 2) for number in range(table.sends[room])]
            found += [("tell", room, note, trees) for trees in product(*ways)]
    return found[:most]


def wrong_told(table):
    rooms = len(table.sends)
    found = [None, True, 0, "", (), [], [((0, 0), 0)], (((0, 0), 0),), {0: 0}, {(): 0}, {(0,): 0}, {(0, 0, 0): 0},
             {(rooms, 0): 0}, {(-1, 0): 0}, {(0, table.takes[0]): 0}, {(0, -1): 0}, {(False, 0): 0}, {(0, False): 0},
             {(0, 0): None}, {(0, 0): (0,)}, {"00": 0}, {(0, "0"): 0}, {None: None}, table, deep_value()]
    for room, note in every_hearing(table):
        found += [{(room, note): wrong} for wrong in wrong_numbers(table.sends[room])]
    return found + [{**told_whole(table, tuple((0,) * taken for taken in table.takes)), (0, True): 0, (5, 5): 0}]


class Basins(Case):
    def test_with_what_is_told(self):
        draw = random.Random(46)
        sizes = set()
        for table in whole_families() + some_tables(2) + GUARDED[:2]:
            for told in [{}] + [random_told(draw, table) for _ in range(5)]:
                found = basin(table, told)
                sizes.add(len(found))
                self.assertTrue(same(found, plain_basin(table, told)))
                self.assertNotEqual(found, [])
                self.assertEqual(basin(table, dict(sorted(told.items(), reverse=True))), found)
        self.assertGreater(len(sizes), 5)

    def test_of_rules_told_whole_it_has_the_rounds(self):
        for table in whole_families()[::2] + [TURNING, odd_ring()]:
            for rules in every_rules(table):
                again = {sent for start in rows(table.sends) for sent in walk(table, rules, start)[1]}
                self.assertEqual(basin(table, told_whole(table, rules)), sorted(again))

    def test_by_hand(self):
        self.assertEqual(basin(table=RING, told={}), [(0, 0), (0, 1), (1, 0), (1, 1)])
        # Behind (0, 1) room 0 may send anything; only behind (0, 0) it cannot send 0.
        self.assertEqual(basin(RING, {(0, 0): 1}), rows((2, 2)))
        self.assertEqual(basin(RING, {(0, 0): 1, (1, 0): 1, (1, 1): 1}), [(0, 1), (1, 1)])
        self.assertEqual(basin(RING, {(0, 0): 1, (0, 1): 1}), [(1, 0), (1, 1)])
        self.assertEqual(basin(RING, {(0, 0): 1, (0, 1): 1, (1, 1): 0}), [(1, 0)])
        self.assertEqual(basin(ZERO_ALWAYS, {(0, 1): 1}), [(0,), (1,)])
        self.assertEqual(basin(ZERO_ALWAYS, {(0, 0): 1}), [(1,)])
        self.assertEqual(basin(ring_table((64,)), {}), rows((64,)))

    def test_wrong_values(self):
        for table in (RING, ring_table((2, 3)), ZERO_ALWAYS):
            self.refuses(basin, {"table": table, "told": {(0, 0): 0}},
                         {"table": (BadTable, wrong_tables(table)), "told": (BadTold, wrong_told(table))})

    def test_results_are_new(self):
        basin(RING, {}).clear()
        self.assertEqual(len(basin(RING, {})), 4)


def odd_ring():
    return Table((2, 2), (2, 2), ((0, 1), (1, 0), (1, 1), (0, 0)))


class HomeTrees(Case):
    def test_heart_a_home_tree_or_a_wheel(self):
        seen = {True: 0, False: 0}
        for table in whole_families() + some_tables(2) + [spark_four(), ring_table((2, 1, 2))]:
            if all_rules(table) > 4096:
                continue
            tree, found = home_tree(table), wheel(table)
            self.assertEqual(tree is None, found is not None)
            seen[tree is None] += 1
            if found is not None:
                self.assertIs(found.__class__, list)
                self.assertIs(is_wheel(table, found), True)
            else:
                self.assertIs(is_home_tree(table, tree), True)
                self.assertIs(plain_home_tree(table, tree, {}), True)
                self.assertTrue(plain_fine(table))
            if all_rules(table) <= 256:
                self.assertEqual(round_somewhere(table), tree is None)
        self.assertTrue(min(seen.values()) > 30)

    def test_all_walks_come_home_where_the_tree_leads(self):
        for table in whole_families() + [spark_four()]:
            tree = home_tree(table)
            if tree is not None:
                for rules in every_rules(table):
                    home = homes_of(table, tree, rules)
                    self.assertEqual(plain_stories(table, rules), [home])
                    for sending in rows(table.sends):
                        self.assertEqual(walk(table, rules, sending)[1], [home])

    def test_a_clock_makes_a_home_tree(self):
        draw = random.Random(47)
        tables = whole_families() + [clocked_table(draw, (2, 2, 2), (2, 2, 2)) for _ in range(20)]
        for table in tables:
            led = clock(table)
            if led is not None:
                self.assertIs(is_home_tree(table, clock_homes(led, {}, len(table.sends))), True)
                self.assertIsNone(wheel(table))

    def test_by_hand(self):
        quiet = quiet_table((2,), (1,))
        self.assertEqual(home_tree(table=quiet), SMALL)
        self.assertIs(is_home_tree(table=quiet, thing=SMALL), True)
        self.assertIsNone(wheel(table=quiet))
        self.assertIsNone(home_tree(RING))
        self.assertIn(wheel(RING), [[(0, 0), (1, 1)], [(1, 1), (0, 0)], [(0, 1), (1, 0)], [(1, 0), (0, 1)]])
        self.assertIsNone(home_tree(TURNING))
        self.assertEqual(len(wheel(TURNING)), 3)
        self.assertEqual(home_tree(quiet_table((1, 1), (3, 2))), ("home", (0, 0)))
        four = spark_table(FOUR)
        self.assertIsNone(clock(four))
        self.assertIs(is_home_tree(four, home_tree(four)), True)
        self.assertIsNone(wheel(four))

    def test_rooms_that_receive_many_notes_but_send_one_number_make_no_deep_tree(self):
        table = quiet_table((1, 1, 2), (64, 64, 2))
        tree = home_tree(table)
        self.assertIs(is_home_tree(table, tree), True)
        self.assertEqual([tree[0], tree[3][0][0]], ["tell", "home"])

    def test_a_wheel_beside_rooms_that_send_one_number(self):
        # The turning table with a room more, which sends nothing else than 0 and receives what room 0 sends.
        notes = tuple(received + (sent[0],) for sent, received in brings(TURNING).items())
        table = Table((2, 2, 2, 1), (2, 2, 2, 2), notes)
        self.assertTrue(plain_fine(table))
        self.assertIs(is_wheel(table, wheel(table)), True)
        self.assertIsNone(home_tree(table))

    def test_just_4096_rules_and_more(self):
        just = [quiet_table((2,) * 6, (2,) * 6), ring_table((2,) * 6), quiet_table((8, 8), (2, 2)),
                quiet_table((64,), (2,)), quiet_table((4, 4, 4), (2, 2, 2)), ring_table((2, 2, 2, 2, 1, 4)),
                clocked_table(random.Random(48), (2,) * 6, (2,) * 6), random_table(random.Random(48), (8, 8), (2, 2)),
                quiet_table((2,), (12,))]
        for table in just:
            self.assertEqual(all_rules(table), 4096)
            tree, found = home_tree(table), wheel(table)
            self.assertEqual(tree is None, found is not None)
            self.assertTrue(is_home_tree(table, tree) if found is None else is_wheel(table, found))
        for table in [quiet_table((2,), (13,)), quiet_table((64,), (3,)), ring_table((17, 3)),
                      quiet_table((2,) * 6, (64,) * 6), ring_table((64,)), quiet_table((3, 2), (6, 3))]:
            self.assertGreater(all_rules(table), 4096)
            for function in (home_tree, wheel):
                self.assertEqual(self.refused(TooMany, function, table).most, 4096)
                self.assertEqual(self.refused(TooMany, function, table=table).most, 4096)

    def test_wrong_tables(self):
        for function in (home_tree, wheel):
            self.refuses(function, {"table": RING}, {"table": (BadTable, wrong_tables(RING))})
        self.refuses(is_home_tree, {"table": RING, "thing": ()}, {"table": (BadTable, wrong_tables(RING))})


class Judged(Case):
    def test_all_kinds_of_trees(self):
        seen = 0
        for table in [quiet_table((2,), (2,)), quiet_table((2, 1), (1, 1)), quiet_table((2, 2), (1, 1)), ZERO_ALWAYS,
                      Table((2, 2), (1, 2), ((0, 0), (0, 0), (0, 1), (0, 1))), quiet_table((1,), (2,))]:
            for tree in every_home_tree(table, {}, 60):
                seen += 1
                self.assertIs(is_home_tree(table, tree), True)
        self.assertGreater(seen, 30)

    def test_one_thing_otherwise_at_any_place(self):
        led = Table((2, 2), (1, 2), ((0, 0), (0, 0), (0, 1), (0, 1)))
        for table, tree in [(quiet_table((2,), (1,)), SMALL), (led, home_tree(led)), (spark_four(), None),
                            (ring_table((2, 1)), home_tree(ring_table((2, 1))))]:
            tree = home_tree(table) if tree is None else tree
            wrong = otherwise(tree) if len(str(tree)) < 900 else otherwise(tree)[::150]
            for value in wrong:
                self.assertIs(is_home_tree(table, value), plain_home_tree(table, value, {}), value)

    def test_judged(self):
        quiet = quiet_table((2,), (2,))
        home = (("home", (0,)), ("home", (1,)))
        right = [SMALL, ("tell", 0, 1, (SMALL, SMALL))]
        wrong = [("home", (0,)), ("tell", 0, 1, home), ("tell", 0, 1, (SMALL, ("tell", 0, 1, (SMALL, SMALL)))),
                 ("tell", 0, 0, home[::-1]), ("tell", 0, 0, list(home)), ("tell", 0, 0, home + home[:1]),
                 ("tell", 0, 0, (("home", (0,)), ("home", (True,)))), ("tell", False, 0, home), ["tell", 0, 0, home],
                 ("tell", 0, 2, home), ("tell", 1, 0, home), ("home", 0, 0, home), ("tell", 0, 0, (("home", [0]),) * 2),
                 ("tell", 0, 0, (SMALL, SMALL))]
        self.judges(is_home_tree, (quiet,), right, wrong)
        self.judges(is_home_tree, (quiet_table((1,), (1,)),),
                    [("home", (0,)), ("tell", 0, 0, (("home", (0,)),))],
                    [("home", (False,)), ("home", 0), ("home", [0])])
        self.judges(is_home_tree, (RING,), [], OTHER_KINDS + [("home", (0, 0))])

    def test_a_tree_for_more_rules_than_4096_may_be_judged(self):
        table = quiet_table((2,), (64,))
        self.assertIs(is_home_tree(table, SMALL), True)
