"""[100] Chances, blends, story weights."""

import random

from onestory.chances import Chances, blended, cells, odd_ring, story_weights, tally, weight
from onestory.errors import (BadBlend, BadChances, BadDelivery, BadRooms, BadRules, BadSending, BadSends, BadTakes,
                             BadWeights)
from onestory.tables import Table, quiet_table, ring_table, turning_table
from tests.samples import (ZERO_ALWAYS, Case, brings, deep_value, every_rules, plain_stories, random_chances,
                           random_rules, random_table, rows, same, wrong_chances, wrong_rows, wrong_rules,
                           wrong_sendings, wrong_tables)

RING = ring_table((2, 2))
QUIET = quiet_table((2, 2), (2, 2))
TURNING = turning_table()
WEIGHTS = ((((0, 0), 3), ((1, 0), 3)), (((0, 1), 6),), (((0, 0), 1), ((0, 1), 2), ((1, 1), 3)), (((1, 1), 6),))
SOME = Chances((2, 2), (2, 2), WEIGHTS)


def wrong_weights():
    pair = ((0, 0), 6)
    lines = [None, True, 0, (), [pair], ((pair,),), (pair, pair), (((0, 0), 3), ((0, 0), 3)),
             (((1, 0), 3), ((0, 0), 3)), (((0, 0), 5),), (((0, 0), 7),), (((0, 0), 6), ((1, 1), 1)),
             (((0, 0), 0), ((1, 1), 6)), (((0, 0), -6),),
             (((0, 2), 6),), (((0, 0, 0), 6),), (((0,), 6),), (((0, False), 6),), (([0, 0], 6),), (((0, 0), None),),
             (((0, 0), "6"),), (((0, 0), 6, 0),), (((0, 0),),), ((6, (0, 0)),), ([(0, 0), 6],), ((None, 6),),
             ({(0, 0): 6},), {(0, 0): 6}, pair, (((0, 0), True), ((0, 1), 5))]
    found = [None, True, 0, (), list(WEIGHTS), WEIGHTS[:3], WEIGHTS + WEIGHTS[:1], dict(enumerate(WEIGHTS)),
             deep_value()]
    for at in range(4):
        found += [WEIGHTS[:at] + (line,) + WEIGHTS[at + 1:] for line in lines]
    return found


class TheClass(Case):
    def test_attributes(self):
        self.assertEqual((SOME.sends, SOME.takes, SOME.weights, SOME.total), ((2, 2), (2, 2), WEIGHTS, 6))
        found = Chances(sends=(2, 2), takes=(2, 2), weights=tuple(
            tuple((received, many * 35) for received, many in line) for line in WEIGHTS))
        self.assertTrue(same(found.weights, WEIGHTS))
        self.assertEqual(found.total, 6)
        found = Chances((2,), (2,), ((((0,), 4), ((1,), 6)), (((1,), 10),)))
        self.assertEqual((found.weights, found.total), (((((0,), 2), ((1,), 3)), (((1,), 5),)), 5))
        self.assertEqual(Chances((1,), (1,), ((((0,), 999999999),),)).weights, ((((0,), 1),),))

    def test_equality(self):
        self.assertEqual(SOME, Chances((2, 2), (2, 2), WEIGHTS))
        others = [Chances((2, 2), (2, 3), WEIGHTS), Chances((2, 2), (2, 2), WEIGHTS[1:] + WEIGHTS[:1]),
                  Chances((4, 1), (2, 2), WEIGHTS), Chances((2, 2), (2, 2), tuple(
                      tuple((received, many * 6 if len(line) == 1 else many * 6) for received, many in line)
                      for line in WEIGHTS[:3]) + ((((1, 0), 1), ((1, 1), 35)),))]
        for other in others + [None, QUIET, WEIGHTS, (SOME,), True, 0, (SOME.sends, SOME.takes, SOME.weights)]:
            self.assertFalse(SOME == other)
            self.assertTrue(SOME != other)
        self.assertIn("__eq__", vars(Chances))

    def test_wrong_values(self):
        self.refuses(Chances, {"sends": (2, 2), "takes": (2, 2), "weights": WEIGHTS}, {
            "sends": (BadSends, [None, True, 0, (), [2, 2], (2,) * 7, (0, 2), (65,), (2, True), (8, 9), ("2", 2)]),
            "takes": (BadTakes, [None, 2, (), [2, 2], (2,), (2, 2, 2), (0, 2), (65, 2), (True, 2), (2, None)]),
            "weights": (BadWeights, wrong_weights())})
        self.refused(BadWeights, Chances, (2, 2), (2, 1), WEIGHTS)
        self.refused(BadWeights, Chances, (2, 1), (2, 2), WEIGHTS)


class Blends(Case):
    def test_blended(self):
        draw = random.Random(1000)
        for sends, takes in [((2, 2), (2, 2)), ((3,), (2,)), ((2, 1, 2), (2, 2, 1)), ((1,), (1,))]:
            for many in (1, 2, 5, 20):
                blend = [(draw.choice((1, 2, 3, 9999)), random_table(draw, sends, takes)) for _ in range(many)]
                found = blended(blend)
                factor = sum(share for share, _ in blend) // found.total
                for sent in rows(sends):
                    for received in rows(takes):
                        right = sum(share for share, table in blend if brings(table)[sent] == received)
                        self.assertEqual(weight(found, sent, received) * factor, right)
                draw.shuffle(blend)
                self.assertEqual(blended(tuple(blend)), found)
                rules = [random_rules(draw, blend[0][1]) for _ in range(5)]
                for told in rules:
                    self.assertEqual(tally(found, told) * factor, sum(
                        share * len(plain_stories(table, told)) for share, table in blend))
        self.assertEqual(blended(blend=[(6, QUIET), (4, RING), (2, QUIET)]),
                         blended([(2, QUIET), (1, RING)]))
        self.assertEqual(blended([(7, RING)]).total, 1)

    def test_odd_ring(self):
        for rooms in range(2, 7):
            found = odd_ring(rooms=rooms)
            self.assertEqual((found.sends, found.takes, found.total), ((2,) * rooms, (2,) * rooms, 2))
            for sent in rows(found.sends):
                ahead = sent[-1:] + sent[:-1]
                turned = tuple(1 - number for number in ahead)
                right = {ahead: 1, turned: 1}
                for received in rows(found.takes):
                    self.assertEqual(weight(found, sent, received), right.get(received, 0))
        self.refuses(odd_ring, {"rooms": 2}, {"rooms": (BadRooms, [None, True, 0, 1, 7, -2, "2", (2,), deep_value()])})

    def test_wrong_values(self):
        pairs = [None, (), (1,), (1, None), (0, QUIET), (10000, QUIET), (-1, QUIET), (True, QUIET), ("1", QUIET),
                 [1, QUIET], (1, QUIET, 0), (QUIET, 1), (1, TURNING),
                 (1, quiet_table((2, 2), (2, 1))), (1, SOME), (1, (QUIET,)),
                 (1, quiet_table((4, 1), (2, 2))), (None, QUIET)]
        wrong = [None, True, 0, (), [], {}, QUIET, (1, QUIET), [(1, QUIET)] * 21, {1: QUIET}, deep_value()]
        wrong += [[(1, QUIET), pair] for pair in pairs] + [[pair, (1, QUIET)] for pair in pairs]
        wrong += [[pair] for pair in pairs if pair not in [(1, TURNING), (1, quiet_table((2, 2), (2, 1))),
                                                           (1, quiet_table((4, 1), (2, 2)))]]
        self.refuses(blended, {"blend": [(1, QUIET)]}, {"blend": (BadBlend, wrong)})
        self.assertEqual(blended([(9999, QUIET)] * 20), blended([(1, QUIET)]))


class Weights(Case):
    def test_weight_and_cells(self):
        draw = random.Random(1001)
        for chances in [SOME, odd_ring(3), blended([(1, RING)])] + [random_chances(draw) for _ in range(20)]:
            right = {(sent, received): many for sent, line in zip(rows(chances.sends), chances.weights)
                     for received, many in line}
            self.assertTrue(same(cells(chances), sorted(right)))
            for sent in rows(chances.sends):
                for received in rows(chances.takes):
                    self.assertEqual(weight(chances, sent, received), right.get((sent, received), 0))
        self.assertEqual(weight(chances=SOME, sending=(1, 0), delivery=(0, 1)), 2)
        self.assertEqual(len(cells(chances=SOME)), 7)

    def test_story_weights_and_tally(self):
        draw = random.Random(1002)
        for chances in [SOME, odd_ring(3)] + [random_chances(draw) for _ in range(30)]:
            table = quiet_table(chances.sends, chances.takes)
            for rules in [random_rules(draw, table) for _ in range(6)]:
                right = {}
                for (sent, received) in cells(chances):
                    if tuple(rule[note] for rule, note in zip(rules, received)) == sent:
                        right[sent] = right.get(sent, 0) + weight(chances, sent, received)
                found = story_weights(chances, rules)
                self.assertTrue(same(found, right))
                self.assertEqual(list(found), sorted(found))
                self.assertEqual(tally(chances, rules), sum(right.values()))
        for table in [RING, QUIET, TURNING]:
            for rules in every_rules(table)[::5]:
                self.assertEqual(story_weights(blended([(3, table)]), rules),
                                 {sent: 1 for sent in plain_stories(table, rules)})

    def test_by_hand(self):
        self.assertEqual((tally(odd_ring(2), ((0, 1), (0, 1))), odd_ring(2).total), (4, 2))
        self.assertEqual(story_weights(chances=odd_ring(2), rules=((0, 1), (0, 1))), {sent: 1 for sent in rows((2, 2))})
        self.assertEqual(tally(chances=odd_ring(2), rules=((0, 1), (1, 0))), 0)
        self.assertEqual(story_weights(odd_ring(2), ((0, 1), (1, 0))), {})
        self.assertEqual(tally(odd_ring(3), ((0, 1),) * 3), 2)

    def test_wrong_values(self):
        chances = {"chances": (BadChances, wrong_chances(SOME))}
        self.refuses(weight, {"chances": SOME, "sending": (0, 1), "delivery": (1, 1)}, {
            **chances, "sending": (BadSending, wrong_sendings(QUIET)), "delivery": (BadDelivery, wrong_rows((2, 2)))})
        self.refuses(cells, {"chances": SOME}, chances)
        for function in (story_weights, tally):
            self.refuses(function, {"chances": SOME, "rules": ((0, 1), (1, 1))},
                         {**chances, "rules": (BadRules, wrong_rules(QUIET))})
        self.assertIn(None, wrong_tables(ZERO_ALWAYS))
        cells(SOME).clear()
        story_weights(SOME, ((0, 0), (0, 0))).clear()
        self.assertEqual(len(cells(SOME)), 7)
        self.assertIsInstance(brings(Table((1,), (1,), ((0,),))), dict)
