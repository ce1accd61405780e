import random
from itertools import combinations, permutations

from onestory.closings import bad_closing, closed, completed, completion, held, is_bad_closing, least_known, possible
from onestory.closings import self_pair, settled, sure_notes, sure_sends
from onestory.errors import BadKnown, BadQueue, BadRest, BadRoom, BadRule, BadRules, BadSent, BadTable, HearsItself
from onestory.errors import NotFine, OneRoom
from onestory.tables import Table, quiet_table, ring_table, turning_table
from tests.samples import ZERO_ALWAYS, Case, brings, clocked_table, deep_value, every_rules, fine_tables
from tests.samples import plain_fine, plain_hears, plain_stories, random_rules, rows, rules_of_room
from tests.samples import some_tables, unlike_alone, whole_families, wrong_numbers, wrong_rows, wrong_rule
from tests.samples import wrong_rules, wrong_sendings, wrong_tables, zero_rules

TURNING = turning_table()
RING = ring_table((2, 3))
SAME = ((0, 1),) * 3
# Room 1 hears itself, rooms 0 and 2 do not.
OWN = Table((2, 2, 3), (3, 2, 2), tuple((c, b, b) for a, b, c in rows((2, 2, 3))))


def others(row, room):
    return tuple(number for k, number in enumerate(row) if k != room)


def put(rest, room, number):
    found = list(rest)
    found.insert(room, number)
    return tuple(found)


def few(tables, most=300):
    return [table for table in tables if len(every_rules(table)) <= most]


class SelfPair(Case):
    def test_the_first_pair(self):
        hearing = 0
        for table in whole_families() + some_tables(2) + [OWN]:
            lines = brings(table)
            for room in range(len(table.sends)):
                pairs = [(one, other) for one in lines for other in lines if one < other
                         and unlike_alone(one, other, room) and lines[one][room] != lines[other][room]]
                self.assertEqual(self_pair(table, room), min(pairs) if pairs else None)
                hearing += bool(pairs)
        self.assertGreater(hearing, 100)
        self.assertEqual(self_pair(table=ring_table((3,)), room=0), ((0,), (1,)))
        self.assertEqual(self_pair(OWN, 1), ((0, 0, 0), (0, 1, 0)))

    def test_wrong_values(self):
        self.refuses(self_pair, {"table": RING, "room": 1},
                     {"table": (BadTable, wrong_tables(RING)), "room": (BadRoom, wrong_numbers(2))})


class Held(Case):
    def test_the_table_of_the_others(self):
        for table in whole_families() + some_tables(1) + [OWN]:
            for room in range(len(table.sends)):
                for sent in range(table.sends[room]):
                    if len(table.sends) == 1:
                        self.refused(OneRoom, held, table, room, sent)
                        continue
                    found = held(table, room, sent)
                    self.assertEqual(found.sends, others(table.sends, room))
                    self.assertEqual(found.takes, others(table.takes, room))
                    for rest, received in brings(found).items():
                        self.assertEqual(received, others(brings(table)[put(rest, room, sent)], room))

    def test_a_room_that_hears_itself_may_be_held(self):
        self.assertEqual(held(table=OWN, room=1, sent=1),
                         Table((2, 3), (3, 2), ((0, 1), (1, 1), (2, 1), (0, 1), (1, 1), (2, 1))))

    def test_wrong_values(self):
        wrong = {"table": (BadTable, wrong_tables(RING)), "room": (BadRoom, wrong_numbers(2)),
                 "sent": (BadSent, wrong_numbers(3))}
        self.refuses(held, {"table": RING, "room": 1, "sent": 2}, wrong)
        self.refused(BadSent, held, RING, 0, 2)
        for sent in wrong_numbers(2):
            self.refused(BadSent, held, ZERO_ALWAYS, 0, sent)
        self.refused(BadRoom, held, ZERO_ALWAYS, 1, 0)
        self.refused(OneRoom, held, ring_table((2,)), 0, 1)


class Closed(Case):
    def test_by_all_rules_the_stories_stay(self):
        for table in few(whole_families() + some_tables(1) + [OWN]):
            for room in range(len(table.sends)):
                if plain_hears(table, room, room) or len(table.sends) == 1:
                    continue
                for rule in rules_of_room(table, room):
                    self.keeps(table, room, rule, closed(table, room, rule))

    def keeps(self, table, room, rule, found):
        self.assertEqual(found.sends, others(table.sends, room))
        self.assertEqual(found.takes, others(table.takes, room))
        for rest, received in brings(found).items():
            sent = put(rest, room, rule[brings(table)[put(rest, room, 0)][room]])
            self.assertEqual(completed(table, room, rule, rest), sent)
            self.assertEqual(received, others(brings(table)[sent], room))
        for rules in every_rules(found)[:40]:
            whole = put(rules, room, rule)
            told = [completed(table, room, rule, rest) for rest in plain_stories(found, rules)]
            self.assertEqual(sorted(told), plain_stories(table, whole))

    def test_the_example(self):
        self.assertEqual(closed(table=TURNING, room=0, rule=(0, 1)),
                         Table((2, 2), (2, 2), ((0, 0), (0, 0), (0, 1), (0, 1))))
        self.assertEqual(closed(RING, 0, (1, 0, 1)), Table((3,), (2,), ((1,), (0,), (1,))))

    def test_errors_in_their_order(self):
        self.assertEqual(self.refused(HearsItself, closed, OWN, 1, (0, 1)).room, 1)
        self.assertEqual(self.refused(HearsItself, closed, table=OWN, room=1, rule=(0, 0)).room, 1)
        self.refused(OneRoom, closed, ring_table((2,)), 0, (0, 1))
        self.refused(OneRoom, closed, ZERO_ALWAYS, 0, (0, 1))
        for rule in wrong_rule(ZERO_ALWAYS, 0):
            self.refused(BadRule, closed, ZERO_ALWAYS, 0, rule)
        for rule in wrong_rule(OWN, 1):
            self.refused(BadRule, closed, OWN, 1, rule)
        self.refuses(closed, {"table": RING, "room": 1, "rule": (2, 1)},
                     {"table": (BadTable, wrong_tables(RING)), "room": (BadRoom, wrong_numbers(2)),
                      "rule": (BadRule, wrong_rule(RING, 1))})


class Completed(Case):
    def test_one_room(self):
        self.assertEqual(completed(table=ZERO_ALWAYS, room=0, rule=(1, 0), rest=()), (1,))
        self.assertEqual(completed(Table((3,), (2,), ((1,),) * 3), 0, (0, 2), ()), (2,))

    def test_errors_in_their_order(self):
        self.refuses(completed, {"table": OWN, "room": 0, "rule": (1, 1, 0), "rest": (1, 2)},
                     {"table": (BadTable, wrong_tables(OWN)), "room": (BadRoom, wrong_numbers(3)),
                      "rule": (BadRule, wrong_rule(OWN, 0)), "rest": (BadRest, wrong_rows((2, 3)))})
        for rest in wrong_rows((2, 3)) + [(1, 2)]:
            self.assertEqual(self.refused(HearsItself, completed, OWN, 1, (0, 1), rest).room, 1)
        self.refused(BadRule, completed, OWN, 1, (0, 2), (1, 2))
        self.assertEqual(self.refused(HearsItself, completed, ring_table((2,)), 0, (0, 1), ()).room, 0)
        for rest in ((0,), [], None, ((),)):
            self.refused(BadRest, completed, ZERO_ALWAYS, 0, (0, 1), rest)


class BadClosing(Case):
    def right(self, table, room, found):
        if found[0] == "self":
            _, one, other = found
            self.assertTrue(one < other and unlike_alone(one, other, room))
            self.assertNotEqual(brings(table)[one][room], brings(table)[other][room])
            return
        self.assertFalse(plain_hears(table, room, room))
        self.assertEqual((found[0], len(found)), ("rule", 2))
        self.assertFalse(plain_fine(closed(table, room, found[1])))

    def test_for_any_one_room(self):
        for table in whole_families() + some_tables(3) + [OWN, ring_table((2,) * 6), ring_table((64,))]:
            for room in range(len(table.sends)):
                found = bad_closing(table, room)
                if plain_fine(table):
                    self.assertIsNone(found)
                else:
                    self.assertIs(found.__class__, tuple)
                    self.right(table, room, found)
                    self.assertIs(is_bad_closing(table, room, found), True)

    def test_heart_fine_exactly_if_all_closings_of_any_room_are(self):
        for table in whole_families() + some_tables(2):
            for room in range(len(table.sends)):
                good = not plain_hears(table, room, room)
                if good and len(table.sends) > 1:
                    good = all(plain_fine(closed(table, room, rule)) for rule in rules_of_room(table, room))
                self.assertEqual(good, plain_fine(table))

    def test_is_bad_closing_by_a_rule(self):
        for table in (RING, ring_table((2, 2, 2)), OWN, TURNING, Table((1, 2), (2, 2), ((0, 0), (0, 1)))):
            for room in range(len(table.sends)):
                right, wrong = [], []
                for rule in rules_of_room(table, room):
                    bad = not plain_hears(table, room, room) and not plain_fine(closed(table, room, rule))
                    (right if bad else wrong).append(("rule", rule))
                    wrong += [["rule", rule], ("self", rule), ("rule", rule, rule), (rule,), rule, ("rule", list(rule))]
                wrong += [("rule", rule) for rule in wrong_rule(table, room)]
                self.judges(is_bad_closing, (table, room), right, wrong)

    def test_is_bad_closing_by_two_sendings(self):
        for table, room in [(OWN, 1), (OWN, 0), (ring_table((3,)), 0), (RING, 0)]:
            lines = brings(table)
            right, wrong = [], []
            for one in lines:
                for other in lines:
                    bad = one < other and unlike_alone(one, other, room) and lines[one][room] != lines[other][room]
                    (right if bad else wrong).append(("self", one, other))
                    wrong += [["self", one, other], ("rule", one, other), ("self", (one, other)), (one, other)]
            for bad in wrong_sendings(table):
                wrong += [("self", bad, max(lines)), ("self", min(lines), bad)]
            for found in right:
                wrong += [("self", tuple(bool(number) for number in found[1]), found[2]), found + ((),),
                          (None,) + found[1:], (ZERO_ALWAYS,) + found[1:]]
            self.judges(is_bad_closing, (table, room), right, wrong)

    def test_a_room_that_hears_itself_has_no_closing(self):
        # Rooms 1 and 2 hear each other, so held or closed in any way they would not be fine.
        table = Table((2, 2, 2), (2, 2, 2), tuple((a, c, b) for a, b, c in rows((2, 2, 2))))
        self.judges(is_bad_closing, (table, 0), [("self", (0, 0, 0), (1, 0, 0))],
                    [("rule", rule) for rule in rules_of_room(table, 0)])
        self.judges(is_bad_closing, (table, 1), [("rule", (0, 1))], [("self", (0, 0, 0), (0, 1, 0))])

    def test_one_room_has_no_closing(self):
        self.judges(is_bad_closing, (ZERO_ALWAYS, 0), [], [("rule", (0, 1)), ("self", (0,), (1,))])
        self.judges(is_bad_closing, (ring_table((2,)), 0), [("self", (0,), (1,))], [("rule", (0, 1))])

    def test_wrong_values(self):
        wrong = {"table": (BadTable, wrong_tables(RING)), "room": (BadRoom, wrong_numbers(2))}
        self.refuses(bad_closing, {"table": RING, "room": 1}, wrong)
        self.refuses(is_bad_closing, {"table": RING, "room": 1, "thing": None}, wrong)


class Settled(Case):
    def test_the_example(self):
        tables, story = settled(table=TURNING, rules=SAME, queue=(0, 1, 2))
        self.assertEqual(tables, (TURNING, Table((2, 2), (2, 2), ((0, 0), (0, 0), (0, 1), (0, 1))),
                                  Table((2,), (2,), ((0,), (0,)))))
        self.assertEqual(story, (0, 0, 0))

    def test_one_room(self):
        self.assertEqual(settled(ZERO_ALWAYS, ((1, 0),), (0,)), ((ZERO_ALWAYS,), (1,)))
        self.assertEqual(self.refused(HearsItself, settled, ring_table((2,)), ((0, 0),), (0,)).room, 0)

    def outcome(self, table, rules, queue):
        """What settled returns, or the number of the room that hears itself."""
        try:
            return settled(table, rules, queue)
        except HearsItself as wrong:
            return wrong.room

    def wanted(self, table, rules, queue):
        left, numbers, tables = table, list(range(len(queue))), [table]
        for room in queue:
            at = numbers.index(room)
            if plain_hears(left, at, at):
                return room
            if len(numbers) > 1:
                left = closed(left, at, rules[room])
                tables.append(left)
                numbers.remove(room)
        return (tuple(tables), plain_stories(table, rules)[0])

    def test_all_queues(self):
        for table in few(whole_families(), 64)[::3] + few(some_tables(1), 64):
            always = {}
            for rules in every_rules(table)[::3]:
                told = plain_stories(table, rules)
                stories_told, by_left = [], {}
                for queue in permutations(range(len(table.sends))):
                    found = self.outcome(table, rules, queue)
                    self.assertEqual(found, self.wanted(table, rules, queue))
                    returned = found.__class__ is tuple
                    always[queue] = always.get(queue, True) and returned
                    if not returned:
                        continue
                    stories_told.append(found[1])
                    for k, left in enumerate(found[0]):
                        same = by_left.setdefault(frozenset(queue[k:]), left)
                        self.assertEqual(same, left)
                self.assertEqual(stories_told, told[:1] * len(stories_told))
                self.assertTrue(len(told) == 1 or not stories_told)
            if plain_fine(table):
                self.assertTrue(all(always.values()))

    def test_heart_with_one_queue_for_all_rules(self):
        for table in few(whole_families() + some_tables(2), 100):
            for queue in list(permutations(range(len(table.sends))))[:2]:
                found = [self.outcome(table, rules, queue) for rules in every_rules(table)]
                self.assertEqual(all(one.__class__ is tuple for one in found), plain_fine(table))

    def test_six_rooms(self):
        draw = random.Random(15)
        table = clocked_table(draw, (2,) * 6, (2,) * 6)
        for _ in range(20):
            rules = random_rules(draw, table)
            queue = tuple(draw.sample(range(6), 6))
            tables, story = settled(table, rules, queue)
            self.assertEqual([story], plain_stories(table, rules))
            self.assertEqual([len(left.sends) for left in tables], [6, 5, 4, 3, 2, 1])

    def test_the_room_has_its_number_in_the_given_table(self):
        ring = ring_table((2, 2, 2))
        for queue in permutations(range(3)):
            self.assertEqual(self.refused(HearsItself, settled, ring, SAME, queue).room, queue[2])
        self.assertEqual(self.refused(HearsItself, settled, OWN, zero_rules(OWN), (2, 1, 0)).room, 1)

    def test_wrong_values(self):
        queues = [None, True, 0, (), (0,), (0, 1), (0, 1, 1), (0, 1, 3), (1, 2, 3), (0, 1, 2, 2), [0, 1, 2],
                  (0, 1, True), (False, 1, 2), "012", {0: 1, 1: 2, 2: 0}, (0, 1, None), (0, 1, (2,)), ((0, 1, 2),),
                  (-1, 0, 1), TURNING, deep_value()]
        self.refuses(settled, {"table": TURNING, "rules": SAME, "queue": (2, 0, 1)},
                     {"table": (BadTable, wrong_tables(TURNING)), "rules": (BadRules, wrong_rules(TURNING)),
                      "queue": (BadQueue, queues)})
        self.refused(BadQueue, settled, OWN, zero_rules(OWN), (1, 2))


def every_known(table, draw):
    """Rules of each lot of rooms, a few of each."""
    rooms = range(len(table.sends))
    found = []
    for many in range(len(rooms) + 1):
        for lot in combinations(rooms, many):
            for _ in range(2):
                rules = random_rules(draw, table)
                found.append({room: rules[room] for room in lot[::-1]})
    return found


def wrong_known(table):
    """What is no dict from some rooms to rules of these."""
    rules = zero_rules(table)
    found = [None, True, 0, "", (), [], [(0, rules[0])], ((0, rules[0]),), rules, {None: rules[0]}, {-1: rules[0]},
             {len(rules): rules[0]}, {False: rules[0]}, {0: list(rules[0])}, {0: None}, {"0": rules[0]},
             {(0,): rules[0]}, {0: rules[0], "more": 1}, {0: rules}, table, deep_value()]
    if len(rules) > 1:
        found += [{True: rules[1]}, {0: rules[0], True: rules[1]}]
    for room in range(len(rules)):
        found += [{room: wrong} for wrong in wrong_rule(table, room)]
    return found


class Known(Case):
    def possible(self, table, known):
        return [sent for sent, received in brings(table).items()
                if all(rule[received[room]] == sent[room] for room, rule in known.items())]

    def in_common(self, lines):
        if not lines:
            return None
        return tuple(column[0] if len(set(column)) == 1 else None for column in zip(*lines))

    def test_possible_and_sure(self):
        draw = random.Random(16)
        nothing = 0
        for table in whole_families() + some_tables(2):
            for known in every_known(table, draw):
                told = self.possible(table, known)
                nothing += not told
                self.assertEqual(possible(table, known), told)
                self.assertEqual(sure_sends(table, known), self.in_common(told))
                self.assertEqual(sure_notes(table, known), self.in_common([brings(table)[sent] for sent in told]))
        self.assertGreater(nothing, 20)

    def test_just_those_that_are_a_story_of_some_rules(self):
        draw = random.Random(17)
        for table in few(whole_families(), 30)[::3]:
            for known in every_known(table, draw):
                told = {sent for rules in every_rules(table) for sent in plain_stories(table, rules)
                        if all(rules[room] == rule for room, rule in known.items())}
                self.assertEqual(possible(table, known), sorted(told))

    def test_no_room_and_all_rooms_known(self):
        for table in whole_families() + some_tables(1):
            self.assertEqual(possible(table, {}), rows(table.sends))
            rules = random_rules(random.Random(1), table)
            self.assertEqual(possible(table, dict(enumerate(rules))), plain_stories(table, rules))
        self.assertIsNone(sure_notes(ring_table((2,)), {0: (1, 0)}))
        self.assertIsNone(sure_sends(table=ring_table((2,)), known={0: (1, 0)}))
        self.assertEqual(sure_notes(table=TURNING, known={}), (None, None, None))
        self.assertEqual(sure_sends(quiet_table((1, 2), (1, 1)), {}), (0, None))

    def test_the_order_of_keys_has_no_meaning(self):
        one, other = {0: (0, 1), 2: (1, 0)}, {2: (1, 0), 0: (0, 1)}
        self.assertEqual(possible(table=TURNING, known=one), possible(TURNING, other))
        self.assertEqual(one, {0: (0, 1), 2: (1, 0)})
        self.assertEqual(completion(TURNING, one, (1,)), completion(TURNING, other, (1,)))

    def test_heart_completions(self):
        draw = random.Random(18)
        for table in [table for table in whole_families() if plain_fine(table)] + fine_tables(1):
            for known in every_known(table, draw):
                unknown = [room for room in range(len(table.sends)) if room not in known]
                found = []
                for rest in rows([table.sends[room] for room in unknown]):
                    sent = completion(table, known, rest)
                    self.assertEqual(tuple(sent[room] for room in unknown), rest)
                    found.append(sent)
                self.assertEqual(sorted(found), possible(table, known))

    def test_the_mean_number_in_any_table(self):
        for table in few(whole_families() + some_tables(1), 100):
            rooms = range(len(table.sends))
            for many in range(len(rooms) + 1):
                for lot in combinations(rooms, many):
                    found = [len(possible(table, {room: rules[room] for room in lot})) for rules in every_rules(table)]
                    free = 1
                    for room in rooms:
                        free *= 1 if room in lot else table.sends[room]
                    self.assertEqual(sum(found), free * len(found))

    def test_wrong_values(self):
        for table in (RING, TURNING, ZERO_ALWAYS):
            for function in (possible, sure_notes, sure_sends):
                self.refuses(function, {"table": table, "known": {}},
                             {"table": (BadTable, wrong_tables(table)), "known": (BadKnown, wrong_known(table))})

    def test_wrong_values_of_completion(self):
        table = quiet_table((2, 3, 2), (2, 2, 2))
        self.refuses(completion, {"table": table, "known": {0: (1, 0)}, "rest": (2, 1)},
                     {"table": (BadTable, wrong_tables(table)), "known": (BadKnown, wrong_known(table)),
                      "rest": (BadRest, wrong_rows((3, 2)))})
        self.refused(BadRest, completion, RING, {}, (2, 2))
        self.refused(BadKnown, completion, RING, {2: (0, 0)}, (2, 2))
        self.refused(NotFine, completion, RING, {}, (1, 2))
        self.refused(NotFine, completion, table=RING, known={0: (0, 0, 0), 1: (0, 0)}, rest=())
        self.refused(BadRest, completion, TURNING, dict(enumerate(SAME)), (0,))
        self.assertEqual(completion(TURNING, dict(enumerate(SAME)), ()), (0, 0, 0))
        self.assertEqual(completion(TURNING, {}, (1, 0, 1)), (1, 0, 1))


class LeastKnown(Case):
    def wanted(self, table, rules, room):
        rooms = range(len(table.sends))
        for many in range(len(rooms) + 1):
            for lot in combinations(rooms, many):
                told = [sent for sent, received in brings(table).items()
                        if all(rules[k][received[k]] == sent[k] for k in lot)]
                if len({brings(table)[sent][room] for sent in told}) == 1:
                    return lot

    def test_the_first_of_the_shortest(self):
        draw = random.Random(19)
        seen = set()
        for table in [table for table in whole_families() if plain_fine(table)] + fine_tables(2):
            for _ in range(3):
                rules = random_rules(draw, table)
                for room in range(len(table.sends)):
                    lot = least_known(table, rules, room)
                    self.assertEqual(lot, self.wanted(table, rules, room))
                    self.assertIs(lot.__class__, tuple)
                    seen.add(lot)
        self.assertTrue({(), (0,), (1,), (0, 1)} <= seen)

    def test_who_knows_more_stays_sure(self):
        draw = random.Random(20)
        for table in fine_tables(1):
            rules = random_rules(draw, table)
            for room in range(len(table.sends)):
                lot = least_known(table, rules, room)
                for more in range(len(table.sends)):
                    known = {k: rules[k] for k in lot + (more,)}
                    self.assertIsNotNone(sure_notes(table, known)[room])

    def test_by_hand(self):
        self.assertEqual(least_known(table=quiet_table((2, 2), (2, 2)), rules=((0, 1), (0, 1)), room=1), ())
        self.assertEqual(least_known(TURNING, ((0, 0), (0, 1), (0, 1)), 1), (0,))
        self.assertEqual(least_known(TURNING, ((1, 1), (0, 1), (0, 1)), 1), (0, 2))
        self.assertEqual(least_known(ZERO_ALWAYS, ((0, 1),), 0), ())

    def test_wrong_values(self):
        wrong = {"table": (BadTable, wrong_tables(TURNING)), "rules": (BadRules, wrong_rules(TURNING)),
                 "room": (BadRoom, wrong_numbers(3))}
        self.refuses(least_known, {"table": TURNING, "rules": SAME, "room": 2}, wrong)
        self.refused(NotFine, least_known, RING, zero_rules(RING), 1)
        for room in wrong_numbers(2):
            self.refused(BadRoom, least_known, RING, zero_rules(RING), room)
        for rules in wrong_rules(RING):
            self.refused(BadRules, least_known, RING, rules, 5)
