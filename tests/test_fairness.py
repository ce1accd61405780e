"""[101] Fair chances, or rules that show that they are not; signed sums; rooms closed in the mean."""

import random
from itertools import combinations, product

from onestory.chances import Chances, blended, odd_ring, tally, weight
from onestory.closings import closed
from onestory.errors import (BadChances, BadHeard, BadLot, BadOther, BadRoom, BadRule, BadSending, HearsItself, OneRoom)
from onestory.fairness import (first_odd, is_fair, is_unfair, mean_closed, self_heard, signed_sum, unfair_rules)
from onestory.tables import Table, quiet_table, ring_table, turning_table
from tests.samples import (Case, clocked_table, deep_value, every_rules, fine_of, otherwise, plain_fine, plain_hears,
                           random_chances, random_rules, random_table, rows, rules_of_room, same, wrong_chances,
                           wrong_numbers, wrong_rows, wrong_rule, wrong_rules, wrong_sendings)

RING = ring_table((2, 2))
QUIET = quiet_table((2, 2), (2, 2))
TURNING = turning_table()
HALF = blended([(1, QUIET), (1, RING)])


def sizes_of(chances):
    return quiet_table(chances.sends, chances.takes)


def plain_is_fair(chances):
    return all(tally(chances, rules) == chances.total for rules in every_rules(sizes_of(chances)))


def plain_signed_sum(chances, lot, heard, one, other):
    total = 0
    for takes in product((0, 1), repeat=len(lot)):
        sent = list(one)
        for k, take in zip(lot, takes):
            sent[k] = other[k] if take else one[k]
        many = sum(weight(chances, tuple(sent), received) for received in rows(chances.takes)
                   if all(received[k] == note for k, note in zip(lot, heard)))
        total += many * (-1) ** sum(takes)
    return total


def every_lot(chances):
    rooms = range(len(chances.sends))
    return [lot for many in range(1, len(chances.sends) + 1) for lot in combinations(rooms, many)]


def every_heard(chances, lot):
    return rows(tuple(chances.takes[k] for k in lot))


def plain_triples(chances):
    """All triples with other zero just outside the lot, those of lesser lots first, then ascending."""
    return [(lot, heard, other) for lot in every_lot(chances) for heard in every_heard(chances, lot)
            for other in rows(chances.sends) if all((other[k] != 0) == (k in lot) for k in range(len(other)))]


def some_chances(many, seed=1010):
    """Chances with few enough rules: fair ones, among them some without anything fine in them, and others."""
    draw = random.Random(seed)
    found = [odd_ring(2), odd_ring(3), HALF, blended([(1, TURNING)]), blended([(1, RING)])]
    for _ in range(many):
        found.append(random_chances(draw))
        for sends, takes in [((2, 2), (2, 2)), ((2, 1, 2), (2, 2, 2)), ((3,), (2,))]:
            found.append(blended([(draw.choice((1, 2, 5)), draw.choice(fine_of(sends, takes))) for _ in range(3)]))
        found.append(blended([(draw.choice((1, 3)), clocked_table(draw, (2, 2, 2), (2, 2, 2))) for _ in range(3)]))
        found.append(blended([(1, random_table(draw, (2, 2), (2, 2))), (1, random_table(draw, (2, 2), (2, 2)))]))
        found.append(blended([(1, ring_table((2,) * 3)), (1, Table((2,) * 3, (2,) * 3, tuple(
            tuple(1 - note for note in received) for received in ring_table((2,) * 3).notes))),
            (draw.choice((1, 2)), clocked_table(draw, (2,) * 3, (2,) * 3))]))
    return found


class Fair(Case):
    def test_heart_fair_or_unfair_rules(self):
        seen = set()
        for chances in some_chances(8):
            fair = plain_is_fair(chances)
            seen.add(fair)
            self.assertIs(is_fair(chances), fair)
            found = unfair_rules(chances)
            self.assertEqual(found is None, fair)
            if not fair:
                low, high = found
                self.assertLess(tally(chances, low), chances.total)
                self.assertGreater(tally(chances, high), chances.total)
                self.assertIs(is_unfair(chances, found), True)
        self.assertEqual(seen, {True, False})

    def test_the_mean_of_the_tally_is_the_total(self):
        for chances in some_chances(3):
            every = every_rules(sizes_of(chances))
            self.assertEqual(sum(tally(chances, rules) for rules in every), chances.total * len(every))

    def test_tables_alone_and_rings(self):
        for sends, takes in [((2,), (2,)), ((2, 2), (2, 2)), ((2, 1), (2, 2))]:
            draw = random.Random(1011)
            for table in [random_table(draw, sends, takes) for _ in range(20)] + fine_of(sends, takes)[:20]:
                self.assertIs(is_fair(blended([(1, table)])), plain_fine(table))
        for rooms in range(2, 7):
            self.assertIs(is_fair(chances=odd_ring(rooms)), rooms % 2 == 1)
            self.assertEqual(unfair_rules(odd_ring(rooms)) is None, rooms % 2 == 1)
        low, high = unfair_rules(chances=odd_ring(6))
        self.assertLess(tally(odd_ring(6), low), 2)
        self.assertGreater(tally(odd_ring(6), high), 2)

    def test_great_chances(self):
        draw = random.Random(1012)
        for sends, takes in [((64,), (64,)), ((8, 8), (5, 64)), ((2,) * 6, (64,) * 6), ((4, 4, 4), (3, 2, 3))]:
            chances = random_chances(draw, (sends, takes))
            self.assertIs(is_unfair(chances, unfair_rules(chances)), True)
            self.assertIs(is_fair(blended([(2, quiet_table(sends, takes)), (1, quiet_table(sends, takes))])), True)

    def test_is_unfair(self):
        chances = odd_ring(2)
        low, high = ((0, 1), (1, 0)), ((0, 1), (0, 1))
        wrong = [value for value in otherwise((low, high)) if not is_plain_unfair(chances, value)]
        wrong += [(rules, high) for rules in wrong_rules(RING)] + [(low, rules) for rules in wrong_rules(RING)]
        self.judges(is_unfair, (chances,), [(low, high), (((1, 0), (0, 1)), ((1, 0), (1, 0)))],
                    wrong + [(high, low), (low, low), (high, high), (((0, 0), (0, 0)), high), (low, ((0, 0), (0, 0)))])
        self.judges(is_unfair, (odd_ring(3),), [], [(((0, 1),) * 3, ((1, 0),) * 3)])
        for chances in some_chances(1):
            every = every_rules(sizes_of(chances))[::7]
            for pair in list(product(every, repeat=2))[::11]:
                self.assertIs(is_unfair(chances, pair), is_plain_unfair(chances, pair))

    def test_wrong_values(self):
        for function in (is_fair, unfair_rules, first_odd):
            self.refuses(function, {"chances": HALF}, {"chances": (BadChances, wrong_chances(HALF))})
        self.refuses(is_unfair, {"chances": HALF, "thing": None}, {"chances": (BadChances, wrong_chances(HALF))})


def is_plain_unfair(chances, thing):
    if thing.__class__ is not tuple or len(thing) != 2:
        return False
    every = every_rules(sizes_of(chances))
    if not all(any(same(rules, other) for other in every) for rules in thing):
        return False
    return tally(chances, thing[0]) < chances.total < tally(chances, thing[1])


class Sums(Case):
    def test_signed_sum(self):
        draw = random.Random(1013)
        for chances in some_chances(2):
            every = rows(chances.sends)
            for _ in range(30):
                lot = draw.choice(every_lot(chances))
                heard = draw.choice(every_heard(chances, lot))
                one, other = draw.choice(every), draw.choice(every)
                if all(one[k] != other[k] for k in lot):
                    self.assertEqual(signed_sum(chances, lot, heard, one, other),
                                     plain_signed_sum(chances, lot, heard, one, other))
                else:
                    self.refused(BadOther, signed_sum, chances, lot, heard, one, other)

    def test_heart_all_signed_sums_are_0(self):
        seen = set()
        for chances in some_chances(1):
            every = rows(chances.sends)
            fair = plain_is_fair(chances)
            seen.add(fair)
            sums = {plain_signed_sum(chances, lot, heard, one, other) for lot in every_lot(chances)
                    for heard in every_heard(chances, lot) for one in every for other in every
                    if all(one[k] != other[k] for k in lot)}
            self.assertEqual(sums <= {0}, fair)
            zeros = (0,) * len(chances.sends)
            firsts = {plain_signed_sum(chances, lot, heard, zeros, other)
                      for lot, heard, other in plain_triples(chances)}
            self.assertEqual(firsts <= {0}, fair)
        self.assertEqual(seen, {True, False})

    def test_first_odd(self):
        for chances in some_chances(6):
            zeros = (0,) * len(chances.sends)
            odd = [triple for triple in plain_triples(chances)
                   if plain_signed_sum(chances, triple[0], triple[1], zeros, triple[2]) != 0]
            found = first_odd(chances)
            self.assertTrue(same(found, odd[0] if odd else None))
            if odd:
                # The rules that answer it differ in their tally by just this sum.
                lot, heard, other = found
                rules = [[0] * taken for taken in chances.takes]
                for k, note in zip(lot, heard):
                    rules[k][note] = other[k]
                many = tally(chances, tuple(tuple(rule) for rule in rules)) - chances.total
                self.assertEqual(many, (-1) ** len(lot) * signed_sum(chances, lot, heard, zeros, other))

    def test_by_hand(self):
        self.assertEqual(first_odd(chances=odd_ring(2)), ((0, 1), (0, 0), (1, 1)))
        self.assertEqual(signed_sum(chances=odd_ring(2), lot=(0, 1), heard=(0, 0), one=(0, 0), other=(1, 1)), 2)
        self.assertIsNone(first_odd(odd_ring(3)))
        self.assertEqual(first_odd(blended([(1, ring_table((2,)))])), ((0,), (0,), (1,)))

    def test_wrong_values(self):
        lots = [None, True, 0, (), [0], [0, 1], (1, 0), (0, 0), (2,), (-1,), (True,), (0, 2), (0, None), ((0,),),
                {0: 1}, deep_value()]
        self.refuses(signed_sum, {"chances": HALF, "lot": (0, 1), "heard": (0, 1), "one": (0, 1), "other": (1, 0)}, {
            "chances": (BadChances, wrong_chances(HALF)), "lot": (BadLot, lots),
            "heard": (BadHeard, wrong_rows((2, 2))),
            "one": (BadSending, wrong_sendings(QUIET)), "other": (BadSending, wrong_sendings(QUIET))})
        self.refused(BadHeard, signed_sum, HALF, (0,), (0, 1), (0, 1), (1, 0))
        for other in [(0, 0), (0, 1), (1, 1)]:
            self.refused(BadOther, signed_sum, HALF, (0, 1), (0, 1), (0, 1), other)
        self.assertEqual(signed_sum(HALF, (0,), (0,), (0, 1), (1, 1)), 0)
        self.refused(BadOther, signed_sum, HALF, (1,), (0,), (0, 1), (1, 1))


def plain_self_heard(chances, room):
    every = rows(chances.sends)
    for one in every:
        for other in every:
            if all(one[k] == other[k] for k in range(len(one)) if k != room):
                for note in range(chances.takes[room]):
                    many = [sum(weight(chances, sent, received) for received in rows(chances.takes)
                                if received[room] == note) for sent in (one, other)]
                    if many[0] != many[1]:
                        return True
    return False


def plain_mean_closed(chances, room, rule):
    def less(row):
        return row[:room] + row[room + 1:]
    lines = []
    for rest in rows(less(chances.sends)):
        line = {}
        for number in range(chances.sends[room]):
            sent = rest[:room] + (number,) + rest[room:]
            for received in rows(chances.takes):
                many = weight(chances, sent, received)
                if many and rule[received[room]] == number:
                    line[less(received)] = line.get(less(received), 0) + many
        lines.append(tuple(sorted(line.items())))
    return Chances(less(chances.sends), less(chances.takes), tuple(lines))


class Closed(Case):
    def test_self_heard(self):
        seen = set()
        for chances in some_chances(5):
            for room in range(len(chances.sends)):
                right = plain_self_heard(chances, room)
                seen.add(right)
                self.assertIs(self_heard(chances, room), right)
        self.assertEqual(seen, {True, False})
        for table in [RING, QUIET, TURNING, ring_table((3,))]:
            for room in range(len(table.sends)):
                self.assertIs(self_heard(chances=blended([(1, table)]), room=room), plain_hears(table, room, room))

    def test_mean_closed(self):
        for chances in some_chances(3):
            for room in range(len(chances.sends)):
                for rule in rules_of_room(sizes_of(chances), room)[:5]:
                    if len(chances.sends) == 1:
                        self.refused(OneRoom, mean_closed, chances, room, rule)
                    elif plain_self_heard(chances, room):
                        self.assertEqual(self.refused(HearsItself, mean_closed, chances, room, rule).room, room)
                    else:
                        self.assertEqual(mean_closed(chances, room, rule), plain_mean_closed(chances, room, rule))
        for table in [RING, QUIET, TURNING]:
            for room in range(len(table.sends)):
                for rule in rules_of_room(table, room):
                    self.assertEqual(mean_closed(chances=blended([(1, table)]), room=room, rule=rule),
                                     blended([(1, closed(table, room, rule))]))

    def test_heart_fair_by_any_one_room(self):
        for chances in some_chances(5):
            fair = plain_is_fair(chances)
            for room in range(len(chances.sends)):
                right = not plain_self_heard(chances, room)
                if right and len(chances.sends) > 1:
                    right = all(is_fair(mean_closed(chances, room, rule))
                                for rule in rules_of_room(sizes_of(chances), room))
                self.assertEqual(right, fair)

    def test_wrong_values(self):
        wrong = {"chances": (BadChances, wrong_chances(HALF)), "room": (BadRoom, wrong_numbers(2))}
        self.refuses(self_heard, {"chances": HALF, "room": 1}, wrong)
        self.refuses(mean_closed, {"chances": HALF, "room": 1, "rule": (0, 1)},
                     {**wrong, "rule": (BadRule, wrong_rule(QUIET, 1))})
        alone = blended([(1, ring_table((2,)))])
        self.refused(OneRoom, mean_closed, alone, 0, (0, 1))
        self.refused(BadRule, mean_closed, alone, 0, None)
        draw = random.Random(1014)
        self.assertEqual(len(random_rules(draw, QUIET)), 2)
