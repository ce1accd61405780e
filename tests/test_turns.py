"""[61] Turns and ways; [62] the fewest turns."""

import random
from itertools import product

from onestory.classes import class_notes, classes
from onestory.errors import (BadMix, BadNotes, BadNumber, BadRoom, BadRooms, BadTable, BadTurns, NotFine, OtherSizes)
from onestory.tables import Table, quiet_table, ring_table, turning_table
from onestory.turns import (bar, fewest_turns, hushed, is_bar, is_way, mixed, passed, plain_way, short_way, turned)
from tests.samples import (OTHER_KINDS, ZERO_ALWAYS, Case, brings, clocked_table, deep_value, fine_of, fine_tables,
                           otherwise, parting_rooms, plain_fine, plain_hears, plain_unparted, rows, same, spark_four,
                           wandered_table, whole_families, wrong_numbers, wrong_rows, wrong_tables)

RING = ring_table((2, 2))
TURNING = turning_table()
QUIET = quiet_table((2, 2), (2, 2))
LED = Table((2, 2), (2, 2), ((0, 0), (0, 0), (0, 1), (0, 1)))
# The table that turns the other way: a room receives 1 if the one behind it sends 1 and the one ahead of it 0.
BACK = Table((2, 2, 2), (2, 2, 2), tuple(tuple(int(sent[(k + 1) % 3] == 1 and sent[k - 1] == 0) for k in range(3))
                                         for sent in rows((2, 2, 2))))


def column(table, room):
    return [received[room] for received in table.notes]


def plain_mixed(one, other, mix):
    columns = [column(one, k) if n == 0 else [0] * len(one.notes) if n == 1 else column(other, k)
               for k, n in enumerate(mix)]
    return Table(one.sends, one.takes, tuple(zip(*columns)))


def plain_turned(table, room, notes):
    told = {rest: note for lot, note in zip(classes(table, room), notes) for rest in lot}
    return Table(table.sends, table.takes, tuple(
        received[:room] + (told[sent[:room] + sent[room + 1:]],) + received[room + 1:]
        for sent, received in brings(table).items()))


def every_turn(table):
    return [(room, notes) for room, taken in enumerate(table.takes)
            for notes in product(range(taken), repeat=len(classes(table, room)))]


def plain_passed(table, thing):
    """All tables on the way, or the index of what is no turn."""
    found = [table]
    for at, turn in enumerate(thing):
        if not any(same(turn, other) for other in every_turn(found[-1])):
            return at
        found.append(plain_turned(found[-1], *turn))
    return found


def turn_distances(table):
    """The fewest turns of all ways from a table to each fine one of its sizes."""
    found = {table.notes: 0}
    waiting = [table]
    for here in waiting:
        for room in range(len(table.sends)):
            for other in fine_of(table.sends, table.takes):
                if other.notes not in found and all(
                        column(here, k) == column(other, k) for k in range(len(table.sends)) if k != room):
                    found[other.notes] = found[here.notes] + 1
                    waiting.append(other)
    return found


def plain_bar(one, other, number, thing):
    if thing.__class__ is not dict:
        return False
    rooms = len(one.sends)
    for mix, pair in thing.items():
        if not any(same(mix, right) for right in rows((3,) * rooms)):
            return False
        if not any(same(pair, right) for right in plain_unparted(plain_mixed(one, other, mix))):
            return False
    last = {(0,) * rooms}
    for raises in range(number + 1):
        if any(plain_mixed(one, other, mix) == other for mix in last if mix not in thing):
            return False
        last = {mix[:k] + (n,) + mix[k + 1:] for mix in last if mix not in thing
                for k in range(rooms) for n in range(mix[k] + 1, 3)}
    return True


def some_pairs(many, seed=620):
    """Pairs of fine tables of equal sizes."""
    draw = random.Random(seed)
    found = [(TURNING, BACK), (BACK, TURNING), (TURNING, TURNING), (LED, QUIET), (ZERO_ALWAYS, ZERO_ALWAYS)]
    for sends, takes in [((2, 2, 2), (2, 2, 2)), ((2, 3, 2), (2, 2, 2)), ((3, 3), (2, 2)), ((2, 2, 2, 2), (2, 2, 2, 2)),
                         ((2, 1, 2), (2, 2, 3))]:
        for _ in range(many):
            one, other = [wandered_table(draw, clocked_table(draw, sends, takes), 15) for _ in range(2)]
            found.append((one, other))
    found += [(wandered_table(draw, TURNING, 10), wandered_table(draw, BACK, 10)) for _ in range(many)]
    found += [(spark_four(), wandered_table(draw, spark_four(), 30)) for _ in range(2)]
    return found


class Turns(Case):
    def test_turned(self):
        for table in fine_tables(1) + fine_of((2, 2), (2, 2)):
            for room, notes in every_turn(table)[::3]:
                found = turned(table, room, notes)
                self.assertEqual(found, plain_turned(table, room, notes))
                self.assertTrue(plain_fine(found))
                self.assertEqual(class_notes(found, room), notes)
        self.assertEqual(turned(table=TURNING, room=0, notes=(0, 1)), TURNING)
        self.assertEqual(column(turned(TURNING, 0, (1, 0)), 0), [1, 0, 1, 1, 1, 0, 1, 1])
        self.assertEqual(turned(ZERO_ALWAYS, 0, (1,)), Table((2,), (2,), ((1,), (1,))))

    def test_turned_refuses(self):
        for table, room, notes in [(TURNING, 1, (0, 1)), (LED, 0, (1,)), (ZERO_ALWAYS, 0, (1,))]:
            self.refuses(turned, {"table": table, "room": room, "notes": notes},
                         {"table": (BadTable, wrong_tables(table)), "room": (BadRoom, wrong_numbers(len(table.sends))),
                          "notes": (BadNotes, wrong_rows((2,) * len(notes)))})
        self.refused(NotFine, turned, RING, 0, None)
        self.refused(BadRoom, turned, RING, 2, None)

    def test_passed(self):
        draw = random.Random(621)
        for table in fine_tables(1) + fine_of((2, 2), (2, 2)):
            for many in (0, 1, 4):
                turns = []
                here = table
                for _ in range(many):
                    turns.append(draw.choice(every_turn(here)))
                    here = plain_turned(here, *turns[-1])
                for thing in (turns, tuple(turns)):
                    found = passed(table, thing)
                    self.assertIs(found.__class__, list)
                    self.assertEqual(found, plain_passed(table, thing))
                    self.assertIs(is_way(table, here, thing), True)

    def test_passed_refuses(self):
        turns = [(0, (0, 0)), (1, (0, 0, 0)), (1, (1, 1, 0))]
        self.assertEqual(len(passed(table=TURNING, turns=turns)), 4)
        seen = set()
        for value in otherwise(turns) + otherwise(tuple(turns)):
            if value.__class__ not in (list, tuple):
                continue
            right = plain_passed(TURNING, value)
            if isinstance(right, int):
                seen.add(right)
                self.assertEqual(self.refused(BadTurns, passed, TURNING, value).at, right)
            else:
                self.assertEqual(passed(TURNING, value), right)
        self.assertEqual(seen, {0, 1, 2, 3})
        for value in OTHER_KINDS + ["turns", {0: turns[0]}, deep_value()]:
            if value.__class__ not in (list, tuple):
                self.assertIsNone(self.refused(BadTurns, passed, TURNING, value).at)
        for value in [None, True, 0, "turn", [0, (0, 0)], (0,), (0, (0, 0), 0), (3, (0, 0)), (0, [0, 0]),
                      (0, (0, True)), (False, (0, 0)), (0, (0, 0, 0)), (0, (0, 2)), ()]:
            self.assertEqual(self.refused(BadTurns, passed, TURNING, [value]).at, 0)
            self.assertEqual(self.refused(BadTurns, passed, TURNING, turns + [value, None]).at, 3)
        self.refuses(passed, {"table": TURNING, "turns": turns}, {"table": (BadTable, wrong_tables(TURNING))})
        self.refused(NotFine, passed, RING, None)
        self.refused(NotFine, passed, RING, [])

    def test_is_way(self):
        for one, other in some_pairs(1)[:9]:
            way = plain_way(one, other)
            values = [way, tuple(way)] + otherwise(way) + otherwise(tuple(way)) + OTHER_KINDS
            for value in values[::1 if len(str(way)) < 120 else 5]:
                right = value.__class__ in (list, tuple) and plain_passed(one, value)
                self.assertIs(is_way(one, other, value), isinstance(right, list) and right[-1] == other)
        # Turns that change nothing.
        self.assertIs(is_way(one=TURNING, other=TURNING, thing=[]), True)
        self.assertIs(is_way(TURNING, TURNING, [(0, (0, 1)), (0, (0, 1)), (2, (0, 1))]), True)
        self.assertIs(is_way(TURNING, BACK, []), False)

    def test_hushed(self):
        for table in whole_families()[::7] + fine_tables(1) + [RING]:
            rooms = len(table.sends)
            for lot in [lot for lot in product((0, 1), repeat=rooms)]:
                found = hushed(table, tuple(k for k in range(rooms) if lot[k]))
                self.assertEqual(found, plain_mixed(table, table, lot))
                self.assertTrue(plain_fine(found) or not plain_fine(table))
        self.assertEqual(hushed(table=RING, rooms=(0, 1)), QUIET)
        self.assertEqual(hushed(RING, ()), RING)
        wrong = [None, True, 0, [0], (1, 0), (0, 0), (2,), (-1,), (True,), (0, False), ("0",), {0: 1}, (0, 1, 2),
                 ((0,),), deep_value(), (None,), (0, True)]
        self.refuses(hushed, {"table": RING, "rooms": (0, 1)},
                     {"table": (BadTable, wrong_tables(RING)), "rooms": (BadRooms, wrong)})

    def test_plain_way(self):
        for one, other in some_pairs(2):
            way = plain_way(one, other)
            rooms = len(one.sends)
            self.assertIs(way.__class__, list)
            self.assertEqual(len(way), 2 * rooms - 1)
            self.assertEqual([room for room, _ in way], list(range(rooms)) + list(range(rooms - 1))[::-1])
            tables = passed(one, way)
            self.assertEqual(tables[-1], other)
            self.assertIs(is_way(one, other, way), True)
            for at in range(rooms - 1):
                self.assertEqual(tables[at + 1], hushed(one, tuple(range(at + 1))))
            for at in range(rooms):
                self.assertEqual(tables[rooms + at], hushed(other, tuple(range(rooms - 1 - at))))
        self.assertEqual(plain_way(one=ZERO_ALWAYS, other=turned(ZERO_ALWAYS, 0, (1,))), [(0, (1,))])


class Fewest(Case):
    def test_the_fewest_of_all_ways_there_and_back(self):
        lengths = set()
        for sends, takes in [((2, 2), (2, 2)), ((1, 2), (2, 2)), ((2,), (3,)), ((3, 2), (1, 2)),
                             ((2, 1, 2), (2, 1, 2))]:
            for one in fine_of(sends, takes)[::2]:
                ways = turn_distances(one)
                for other in fine_of(sends, takes):
                    many = fewest_turns(one, other)
                    lengths.add(many)
                    self.assertTrue(same(many, ways[other.notes]))
                    self.assertEqual(fewest_turns(other, one), many)
        self.assertEqual(lengths, {0, 1, 2})

    def test_of_three_rooms(self):
        draw = random.Random(622)
        every = fine_three()
        for one in [TURNING] + draw.sample(every, 2):
            ways = three_distances(one)
            for other in every[::7] + [BACK, TURNING]:
                many = fewest_turns(one, other)
                self.assertEqual(many, ways[other.notes])
                found = short_way(one, other)
                self.assertEqual(len(found), many)
                self.assertEqual(plain_passed(one, found)[-1], other)
        self.assertEqual(max(three_distances(TURNING).values()), 5)

    def test_heart_a_way_or_a_bar(self):
        for one, other in some_pairs(3):
            many = fewest_turns(one, other)
            way = short_way(one, other)
            self.assertEqual(len(way), many)
            self.assertIs(is_way(one, other, way), True)
            self.assertEqual(passed(one, way)[-1], other)
            self.assertEqual(fewest_turns(other, one), many)
            for number in list(range(many + 2)) + [20]:
                found = bar(one, other, number)
                self.assertEqual(found is None, number >= many)
                if found is not None:
                    self.assertIs(is_bar(one, other, number, found), True)
                    self.assertTrue(plain_bar(one, other, number, found))
                    self.assertEqual(list(found), sorted(found))

    def test_facts(self):
        pairs = some_pairs(3, 623)
        for one, other in pairs:
            many = fewest_turns(one, other)
            rooms = len(one.sends)
            unlike = [k for k in range(rooms) if column(one, k) != column(other, k)]
            self.assertEqual(many == 0, one == other)
            self.assertTrue(len(unlike) <= many <= 2 * rooms - 1)
            if rooms <= 2 or in_one_order(one, other):
                self.assertEqual(many, len(unlike))
        triples = [(one, other, third) for one, other in pairs for _, third in pairs if third.sends == one.sends
                   and third.takes == one.takes][:60]
        for one, other, third in triples:
            self.assertTrue(fewest_turns(one, other) <= fewest_turns(one, third) + fewest_turns(third, other))

    def test_by_hand(self):
        self.assertEqual(fewest_turns(one=TURNING, other=BACK), 5)
        self.assertEqual(len(short_way(one=TURNING, other=BACK)), 5)
        found = bar(one=TURNING, other=BACK, number=4)
        self.assertIs(is_bar(one=TURNING, other=BACK, number=4, thing=found), True)
        self.assertIs(is_bar(TURNING, BACK, 5, found), False)
        self.assertIsNone(bar(TURNING, BACK, 5))
        turns = [(2, 0, 0), (1, 2, 0), (1, 0, 2)]
        mixes = [mix[k:] + mix[:k] for mix in turns for k in range(3)]
        by_hand = {mix: plain_unparted(plain_mixed(TURNING, BACK, mix))[0] for mix in mixes}
        self.assertEqual(by_hand[2, 0, 0], ((0, 0, 0), (1, 1, 0)))
        self.assertIs(is_bar(TURNING, BACK, 4, by_hand), True)
        for mix in mixes:
            less = {other: pair for other, pair in by_hand.items() if other != mix}
            self.assertIs(is_bar(TURNING, BACK, 4, less), plain_bar(TURNING, BACK, 4, less))
        self.assertEqual(short_way(TURNING, TURNING), [])
        self.assertIsNone(bar(TURNING, TURNING, 0))
        self.assertIs(is_bar(TURNING, BACK, 0, {}), True)
        self.assertIs(is_bar(TURNING, TURNING, 0, {}), False)
        self.assertIs(is_bar(QUIET, LED, 0, {}), True)
        self.assertIs(is_bar(QUIET, LED, 1, {}), False)

    def test_mixed(self):
        for one, other in some_pairs(1):
            for mix in rows((3,) * len(one.sends)):
                self.assertEqual(mixed(one, other, mix), plain_mixed(one, other, mix))
        found = mixed(one=TURNING, other=BACK, mix=(2, 0, 0))
        self.assertFalse(plain_fine(found))
        self.assertEqual(parting_rooms(found, (0, 0, 0), (1, 1, 0)), [])

    def test_a_great_pair(self):
        draw = random.Random(624)
        one, other = [wandered_table(draw, clocked_table(draw, (2,) * 6, (2,) * 6), 2) for _ in range(2)]
        many = fewest_turns(one, other)
        self.assertIs(is_way(one, other, short_way(one, other)), True)
        self.assertIs(is_bar(one, other, many - 1, bar(one, other, many - 1)), True)


def in_one_order(one, other):
    """Whether in some order of the rooms each room hears only rooms ahead of it, in both tables."""
    rooms = range(len(one.sends))
    left = list(rooms)
    while left:
        ready = [b for b in left if not any(plain_hears(t, a, b) for a in left for t in (one, other))]
        if not ready:
            return False
        left = [k for k in left if k not in ready]
    return True


THREE = []


def fine_three():
    """All fine tables of three rooms that send and receive two numbers each, found by turns."""
    if not THREE:
        found = {TURNING.notes: TURNING}
        waiting = [TURNING]
        for here in waiting:
            for turn in every_turn(here):
                other = plain_turned(here, *turn)
                if other.notes not in found:
                    found[other.notes] = other
                    waiting.append(other)
        THREE.extend(found[notes] for notes in sorted(found))
    return THREE


def three_distances(table):
    found = {table.notes: 0}
    waiting = [table]
    for here in waiting:
        for turn in every_turn(here):
            other = plain_turned(here, *turn)
            if other.notes not in found:
                found[other.notes] = found[here.notes] + 1
                waiting.append(other)
    return found


class Judged(Case):
    def test_bars_with_one_thing_otherwise(self):
        judged = {True: 0, False: 0}
        cross = Table((2, 2), (2, 2), ((0, 0), (1, 0), (0, 0), (1, 0)))
        for one, other in [(TURNING, BACK), (QUIET, LED), (LED, cross)]:
            many = fewest_turns(one, other)
            found = bar(one, other, many - 1)
            for value in otherwise(found)[::1 if len(found) < 5 else 3]:
                for number in (many - 2, many - 1, many):
                    if number >= 0:
                        right = plain_bar(one, other, number, value)
                        judged[right] += 1
                        self.assertIs(is_bar(one, other, number, value), right, value)
        self.assertTrue(min(judged.values()) > 20, judged)

    def test_is_bar(self):
        found = bar(TURNING, BACK, 4)
        two = ((0, 0, 0), (0, 0, 1))
        less = {mix: found[mix] for mix in found if mix != (2, 0, 0)}
        wrong = [list(found), {**found, (0, 0, 0): two}, {**found, (2, 2, 2): two},
                 {**less, (2, 0, False): found[2, 0, 0]}, {**found, (3, 0, 0): found[2, 0, 0]}, {}, {(2, 0, 0): None},
                 {**found, (2, 0, 0): ((1, 1, 0), (0, 0, 0))}, {**found, (2, 0, 0): [(0, 0, 0), (1, 1, 0)]},
                 {**found, (2, 0, 0): ((0, 0, 0), (1, True, 0))}]
        self.judges(is_bar, (TURNING, BACK, 4), [found], wrong)

    def test_all_small_bars(self):
        cross = Table((2, 2), (2, 2), ((0, 0), (1, 0), (0, 0), (1, 0)))
        unsound = {mix: plain_unparted(plain_mixed(LED, cross, mix))
                   for mix in rows((3, 3)) if not plain_fine(plain_mixed(LED, cross, mix))}
        for lot in product((0, 1), repeat=len(unsound)):
            thing = {mix: pairs[0] for (mix, pairs), kept in zip(unsound.items(), lot) if kept}
            for number in (0, 1, 2, 3, 20):
                self.assertIs(is_bar(LED, cross, number, thing), plain_bar(LED, cross, number, thing))

    def test_wrong_values(self):
        calls = [(plain_way, {}), (fewest_turns, {}), (short_way, {}), (mixed, {"mix": (0, 1)}), (bar, {"number": 1}),
                 (is_way, {"thing": []}), (is_bar, {"number": 1, "thing": {}})]
        fatter = quiet_table((2, 2), (2, 3))
        for function, more in calls:
            wrong = {"one": (BadTable, wrong_tables(LED)), "other": (BadTable, wrong_tables(LED))}
            if "mix" in more:
                wrong["mix"] = (BadMix, wrong_rows((3, 3)))
            if "number" in more:
                wrong["number"] = (BadNumber, wrong_numbers(21))
            self.refuses(function, {"one": LED, "other": QUIET, **more}, wrong)
            rest = list(more.values())
            bad = [None] * len(rest)
            for one, other in [(RING, QUIET), (QUIET, RING), (RING, RING), (RING, fatter), (TURNING, RING)]:
                self.refused(NotFine, function, one, other, *rest)
                self.refused(NotFine, function, one, other, *bad)
            # Here no Table in either place comes ahead of what is not fine.
            for value in wrong_tables(RING):
                self.refused(BadTable, function, RING, value, *rest)
                self.refused(BadTable, function, value, RING, *rest)
            for one, other in [(QUIET, fatter), (QUIET, TURNING), (quiet_table((2, 3), (2, 2)), QUIET),
                               (quiet_table((2, 3), (1, 1)), quiet_table((3, 2), (1, 1)))]:
                self.refused(OtherSizes, function, one, other, *rest)
                self.refused(OtherSizes, function, one, other, *bad)
