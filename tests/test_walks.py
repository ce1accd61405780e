"""[42] Walks and wheels."""

import random
from itertools import permutations, product

from onestory.clocks import clock, is_knot
from onestory.errors import BadRules, BadSending, BadSparks, BadTable, BadWheel
from onestory.tables import Table, quiet_table, ring_table, turning_table
from onestory.walks import is_wheel, spark_table, walk, wheel_rules
from tests.samples import (OTHER_KINDS, ZERO_ALWAYS, Case, answered, brings, deep_value, every_rules, otherwise,
                           plain_fine, plain_stories, random_rules, random_table, rows, same, some_tables, spark_four,
                           whole_families, wrong_numbers, wrong_rules, wrong_sendings, wrong_tables, zero_rules)

TURNING = turning_table()
RING = ring_table((2, 2))
SAME = ((0, 1),) * 3
ROUND = [(0, 1, 0), (0, 0, 1), (1, 0, 0)]
FOUR = ((0, 0, 0, 0), (1, 0, 1, 1), (0, 1, 0, 0), (0, 0, 1, 0))


def plain_walk(table, rules, sending):
    steps = [sending]
    for _ in range(2 * len(table.notes)):
        steps.append(answered(table, rules, steps[-1]))
    late = steps[len(table.notes):]
    way = [sent for at, sent in enumerate(steps) if sent not in late]
    again = []
    for sent in steps[len(way):]:
        if sent not in again:
            again.append(sent)
    return (way, again)


def plain_wheel(table, thing):
    if thing.__class__ not in (list, tuple) or len(thing) < 2:
        return False
    if not all(any(same(sent, other) for other in rows(table.sends)) for sent in thing) or len(set(thing)) < len(thing):
        return False
    lines = brings(table)
    for at, one in enumerate(thing):
        for to, other in enumerate(thing):
            for room in range(len(one)):
                then, behind = thing[(at + 1) % len(thing)], thing[(to + 1) % len(thing)]
                if lines[one][room] == lines[other][room] and then[room] != behind[room]:
                    return False
    return True


def every_wheel(table, most):
    """All wheels of at most so many sendings that begin with their least one."""
    return [list(wheel) for size in range(2, most + 1) for wheel in permutations(rows(table.sends), size)
            if wheel[0] == min(wheel) and plain_wheel(table, list(wheel))]


class Walks(Case):
    def test_ways_and_rounds(self):
        draw = random.Random(42)
        lengths = set()
        for table in whole_families() + some_tables(2):
            for rules in every_rules(table) if len(table.notes) < 5 else [random_rules(draw, table) for _ in range(8)]:
                for sending in rows(table.sends):
                    found = walk(table, rules, sending)
                    self.assertTrue(same(found, plain_walk(table, rules, sending)))
                    lengths.add((len(found[0]), len(found[1])))
                    self.assertEqual(len(found[1]) == 1, found[1][0] in plain_stories(table, rules))
        self.assertGreater(len(lengths), 8)

    def test_by_hand(self):
        self.assertEqual(walk(table=TURNING, rules=SAME, sending=(1, 1, 0)), ([(1, 1, 0)], ROUND))
        self.assertEqual(walk(TURNING, SAME, (0, 0, 0)), ([], [(0, 0, 0)]))
        self.assertEqual(walk(TURNING, SAME, (1, 1, 1)), ([(1, 1, 1)], [(0, 0, 0)]))
        self.assertEqual(walk(TURNING, SAME, (0, 0, 1)), ([], [(0, 0, 1), (1, 0, 0), (0, 1, 0)]))
        self.assertEqual(walk(ZERO_ALWAYS, ((1, 0),), (1,)), ([], [(1,)]))
        self.assertEqual(walk(ZERO_ALWAYS, ((1, 0),), (0,)), ([(0,)], [(1,)]))

    def test_a_long_walk(self):
        table = ring_table((64,))
        rule = tuple((number + 1) % 64 for number in range(64))
        self.assertEqual(walk(table, (rule,), (5,)), ([], [((number + 5) % 64,) for number in range(64)]))
        rule = tuple(min(number + 1, 63) for number in range(64))
        self.assertEqual(walk(table, (rule,), (0,)), ([(number,) for number in range(63)], [(63,)]))

    def test_with_a_clock_it_comes_home_in_as_many_steps_as_there_are_rooms(self):
        draw = random.Random(43)
        for table in whole_families() + some_tables(3):
            if clock(table) is not None:
                for rules in every_rules(table) if len(table.notes) < 5 else [random_rules(draw, table)]:
                    for sending in rows(table.sends):
                        way, again = walk(table, rules, sending)
                        self.assertEqual(len(again), 1)
                        self.assertTrue(len(way) <= len(table.sends))

    def test_wrong_values(self):
        self.refuses(walk, {"table": RING, "rules": ((0, 1), (0, 1)), "sending": (0, 0)},
                     {"table": (BadTable, wrong_tables(RING)), "rules": (BadRules, wrong_rules(RING)),
                      "sending": (BadSending, wrong_sendings(RING))})

    def test_results_are_new(self):
        found = walk(TURNING, SAME, (1, 1, 0))
        found[0].append(1)
        found[1].clear()
        self.assertEqual(walk(TURNING, SAME, (1, 1, 0)), ([(1, 1, 0)], ROUND))


class Wheels(Case):
    def test_all_lists_of_a_few_sendings(self):
        seen = 0
        for table in whole_families()[::3] + [TURNING, RING, ring_table((2, 3)), quiet_table((2, 2), (1, 2))]:
            for size in (1, 2, 3):
                for wheel in product(rows(table.sends), repeat=size):
                    right = plain_wheel(table, list(wheel))
                    seen += right
                    self.assertIs(is_wheel(table, list(wheel)), right)
                    self.assertIs(is_wheel(table, wheel), right)
        self.assertGreater(seen, 100)

    def test_heart_fine_without_a_wheel_of_two(self):
        for table in whole_families() + some_tables(2):
            two = [[one, other] for one in rows(table.sends) for other in rows(table.sends)
                   if is_wheel(table, [one, other])]
            self.assertEqual(plain_fine(table), two == [])

    def test_wheel_rules_answer_in_turn_and_send_0_else(self):
        seen = 0
        for table in whole_families() + some_tables(1)[:12] + [TURNING]:
            for wheel in every_wheel(table, 3 if len(table.notes) < 9 else 2):
                seen += 1
                rules = wheel_rules(table, wheel)
                self.assertTrue(same(rules, wheel_rules(table, tuple(wheel))))
                for at, sent in enumerate(wheel):
                    self.assertEqual(answered(table, rules, sent), wheel[(at + 1) % len(wheel)])
                for room, rule in enumerate(rules):
                    told = {brings(table)[sent][room] for sent in wheel}
                    self.assertTrue(all(number == 0 for note, number in enumerate(rule) if note not in told))
                    self.assertEqual(len(rule), table.takes[room])
        self.assertGreater(seen, 100)

    def test_by_hand(self):
        self.assertIs(is_wheel(table=TURNING, thing=ROUND), True)
        self.assertIs(is_wheel(TURNING, ROUND[1:] + ROUND[:1]), True)
        self.assertEqual(wheel_rules(table=TURNING, wheel=ROUND), SAME)
        self.assertEqual(wheel_rules(RING, [(0, 0), (1, 1)]), ((1, 0), (1, 0)))
        self.assertEqual(wheel_rules(RING, ((0, 1), (1, 0))), ((0, 1), (0, 1)))
        # Room 1 receives 2 nowhere on the wheel.
        self.assertEqual(wheel_rules(ring_table((3, 2)), [(0, 0), (1, 1)]), ((1, 0), (1, 0, 0)))
        self.assertIs(is_wheel(RING, [(0, 0), (0, 1), (1, 1), (1, 0)]), True)

    def test_judged(self):
        for wheel in (ROUND, tuple(ROUND)):
            wrong = [value for value in otherwise(wheel) if not plain_wheel(TURNING, value)]
            self.assertGreater(len(wrong), 50)
            self.judges(is_wheel, (TURNING,), [ROUND, tuple(ROUND)], wrong)
        self.judges(is_wheel, (RING,), [[(0, 0), (1, 1)], ((0, 0), (1, 1))],
                    [[(0, 0), (0, 0)], [(0, 0)], [(0, 0), (1, True)], [[0, 0], (1, 1)], {(0, 0): (1, 1)},
                     [(0, 0), (0, 1)]])

    def test_wrong_values(self):
        wrong = [value for value in otherwise(ROUND) + OTHER_KINDS + [ROUND[:2], [(0, 0, 0)] * 2, deep_value()]
                 if not plain_wheel(TURNING, value)]
        self.refuses(wheel_rules, {"table": TURNING, "wheel": ROUND},
                     {"table": (BadTable, wrong_tables(TURNING)), "wheel": (BadWheel, wrong)})
        self.refuses(is_wheel, {"table": RING, "thing": []}, {"table": (BadTable, wrong_tables(RING))})


def plain_sparks(sparks):
    rooms = len(sparks)
    return Table((2,) * rooms, (2,) * rooms, tuple(
        tuple(int(all(sent[j] == sparks[k][j] for j in range(rooms) if j != k)) for k in range(rooms))
        for sent in rows((2,) * rooms)))


def every_sparks(rooms):
    return list(product(rows((2,) * rooms), repeat=rooms))


def tell_unlike(sparks):
    """Whether any two sparks tell unlike numbers of a third room."""
    rooms = range(len(sparks))
    return all(any(sparks[a][c] != sparks[b][c] for c in rooms if c not in (a, b))
               for a in rooms for b in rooms if a < b)


def turns_in_sparks(sparks):
    """Whether there are a sending and three or more rooms in turn as the fact on wheels of spark tables has it."""
    rooms = range(len(sparks))
    for sent in rows((2,) * len(sparks)):
        follows = {(a, b) for a in rooms for b in rooms if a != b and all(
            sparks[b][c] == (1 - sent[c] if c == a else sent[c]) for c in rooms if c != b)}
        for size in range(3, len(sparks) + 1):
            for turn in permutations(rooms, size):
                if all((turn[at - 1], turn[at]) in follows for at in range(size)):
                    return True
    return False


def has_wheel(table):
    """Whether the walks by some rules go round, or two stories make a wheel."""
    if not plain_fine(table):
        return True
    return any(len(walk(table, rules, sending)[1]) > 1 for rules in every_rules(table) for sending in rows(table.sends))


class Sparks(Case):
    def test_all_sparks_of_one_to_three_rooms(self):
        for rooms in (1, 2, 3):
            for sparks in every_sparks(rooms):
                table = spark_table(sparks)
                self.assertEqual(table, plain_sparks(sparks))
                if rooms > 1:
                    self.assertEqual(plain_fine(table), tell_unlike(sparks))
                    self.assertIs(is_knot(table, {}), True)

    def test_some_sparks_of_more_rooms(self):
        draw = random.Random(44)
        fine = 0
        for rooms in (4, 4, 5, 6):
            for _ in range(40):
                sparks = tuple(tuple(draw.randrange(2) for _ in range(rooms)) for _ in range(rooms))
                table = spark_table(sparks)
                self.assertEqual(table, plain_sparks(sparks))
                self.assertEqual(plain_fine(table), tell_unlike(sparks))
                fine += plain_fine(table)
        self.assertGreater(fine, 10)

    def test_wheels_of_fine_spark_tables(self):
        found = {True: 0, False: 0}
        four = every_sparks(4)
        draw = random.Random(45)
        for sparks in every_sparks(3) + [FOUR] + [draw.choice(four) for _ in range(150)]:
            table = spark_table(sparks)
            if plain_fine(table):
                right = turns_in_sparks(sparks)
                found[right] += 1
                self.assertEqual(has_wheel(table), right)
        self.assertTrue(min(found.values()) > 3, found)

    def test_by_hand(self):
        self.assertEqual(spark_table(sparks=((0, 0, 1), (1, 0, 0), (0, 1, 0))), TURNING)
        self.assertEqual(spark_table(((1, 0, 1), (1, 1, 0), (0, 1, 1))), TURNING)
        self.assertEqual(spark_table(FOUR), spark_four())
        for sparks in (((0,),), ((1,),)):
            self.assertEqual(spark_table(sparks), Table((2,), (2,), ((1,), (1,))))
        self.assertEqual(spark_table(((0, 1), (0, 1))), Table((2, 2), (2, 2), ((0, 1), (1, 1), (0, 0), (1, 0))))
        self.assertEqual(len(spark_table(((0,) * 6,) * 6).notes), 64)

    def test_wrong_values(self):
        right = ((0, 0, 1), (1, 0, 0), (0, 1, 0))
        wrong = [value for value in otherwise(right) if not (same(value.__class__, tuple) and plain_right(value))]
        wrong += OTHER_KINDS + [((0,) * 7,) * 7, ((0, 1),), ((0,), (1,)), ((True,),), ((2,),), ([0],), (0,),
                                deep_value()]
        wrong += [((number,),) for number in wrong_numbers(2)]
        self.refuses(spark_table, {"sparks": right}, {"sparks": (BadSparks, wrong)})


def plain_right(sparks):
    return 1 <= len(sparks) <= 6 and all(
        spark.__class__ is tuple and len(spark) == len(sparks) and all(same(n, 0) or same(n, 1) for n in spark)
        for spark in sparks)
