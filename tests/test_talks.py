import random
from itertools import combinations, product

from onestory.clocks import clock, hears
from onestory.closings import closed
from onestory.errors import BadKnown, BadRoom, BadRules, BadTable, BadTalk, HearsItself, NotFine
from onestory.tables import Table, quiet_table, ring_table, turning_table
from onestory.talks import bad_pair, heard, hearing, is_bad_pair, is_talk, pair_table, talk, talk_rules, tellings
from tests.samples import OTHER_KINDS, ZERO_ALWAYS, Case, brings, deep_value, every_rules, fine_tables, plain_fine
from tests.samples import plain_hears, random_rules, rows, rules_of_room, some_tables, whole_families, wrong_numbers
from tests.samples import wrong_rows, wrong_rules, wrong_sendings, wrong_tables, zero_rules

TURNING = turning_table()
RING = ring_table((2, 3))
SAME = ((0, 1),) * 3
# Room 2 hears itself and nobody else; rooms 0 and 1 hear nobody.
OWN = Table((2, 2, 2), (2, 2, 2), tuple((0, 0, c) for a, b, c in rows((2, 2, 2))))


def further(table, one, other):
    return [room for room in range(len(table.sends)) if room not in (one, other)]


def pairs_of(table):
    return list(combinations(range(len(table.sends)), 2))


def every_known(table, one, other):
    rooms = further(table, one, other)
    return [dict(zip(rooms, told)) for told in product(*[rules_of_room(table, room) for room in rooms])]


def outcome(table, one, other, known):
    """The Table of the two that are left, by closings of the document, or the room that hears itself."""
    left, numbers = table, list(range(len(table.sends)))
    for room in sorted(known):
        at = numbers.index(room)
        if plain_hears(left, at, at):
            return room
        left = closed(left, at, known[room])
        numbers.remove(room)
    return left


def fails(table, one, other, known):
    left = outcome(table, one, other, known)
    if left.__class__ is int or plain_hears(left, 0, 0) or plain_hears(left, 1, 1):
        return True
    return plain_hears(left, 0, 1) and plain_hears(left, 1, 0)


def wrong_further(table, one, other):
    """What is no dict from just all further rooms to rules of these."""
    good = {room: zero_rules(table)[room] for room in further(table, one, other)}
    found = [None, True, 0, "", (), [], list(good.items()), tuple(good.items()), {**good, one: zero_rules(table)[one]},
             {**good, other: zero_rules(table)[other]}, {**good, -1: (0,)}, {**good, "0": (0, 0)}, {**good, None: ()},
             {**good, len(table.sends): (0, 0)}, zero_rules(table), table, deep_value()]
    for room in good:
        found += [{**good, room: list(good[room])}, {**good, room: good[room] + (0,)}, {**good, room: None},
                  {**good, room: (True,) * len(good[room])}, {k: good[k] for k in good if k != room}]
        if room < 2:
            found.append({bool(k) if k == room else k: good[k] for k in good})
    return found


class Pairs(Case):
    def few(self, many=1):
        tables = [table for table in whole_families() if len(table.sends) > 1][::3] + some_tables(many) + [OWN]
        return [table for table in tables if len(table.sends) > 1]

    def test_pair_table_and_hearing(self):
        for table in self.few():
            for one, other in pairs_of(table):
                for known in every_known(table, one, other)[:20]:
                    wanted = outcome(table, one, other, known)
                    if wanted.__class__ is int:
                        self.assertEqual(self.refused(HearsItself, pair_table, table, one, other, known).room, wanted)
                        self.assertEqual(self.refused(HearsItself, hearing, table, one, other, known).room, wanted)
                        continue
                    self.assertEqual(pair_table(table, one, other, known), wanted)
                    self.assertEqual(hearing(table, one, other, known),
                                     (plain_hears(wanted, 1, 0), plain_hears(wanted, 0, 1)))

    def test_by_hand(self):
        self.assertEqual(hearing(TURNING, 1, 2, {0: (0, 1)}), (False, True))
        self.assertEqual(hearing(table=TURNING, one=1, other=2, known={0: (1, 0)}), (True, False))
        self.assertEqual(pair_table(table=TURNING, one=1, other=2, known={0: (0, 1)}),
                         Table((2, 2), (2, 2), ((0, 0), (0, 0), (0, 1), (0, 1))))
        self.assertEqual(pair_table(RING, 0, 1, {}), RING)
        self.assertEqual(hearing(RING, 0, 1, {}), (True, True))
        self.assertEqual(hearing(ring_table((2, 1)), 0, 1, {}), (False, True))
        self.assertEqual(self.refused(HearsItself, pair_table, OWN, 0, 1, {2: (0, 1)}).room, 2)

    def test_the_least_room_is_closed_first(self):
        # Each of rooms 1 and 2 hears the other; so when room 1 is closed, room 2 hears itself.
        table = Table((2,) * 4, (2,) * 4, tuple((0, c, b, 0) for a, b, c, d in rows((2,) * 4)))
        for known in ({1: (0, 1), 2: (0, 1)}, {2: (0, 1), 1: (0, 1)}):
            self.assertEqual(self.refused(HearsItself, pair_table, table, 0, 3, known).room, 2)

    def test_heart_one_hears_the_other_whatever_the_rest_does(self):
        for table in self.few(2):
            for one, other in pairs_of(table):
                every = every_known(table, one, other)
                if len(every) > 100:
                    continue
                self.assertEqual(not any(fails(table, one, other, known) for known in every), plain_fine(table))
                if plain_fine(table):
                    for known in every:
                        self.assertNotEqual(hearing(table, one, other, known), (True, True))

    def test_bad_pair(self):
        for table in self.few(2) + [ring_table((2,) * 6)]:
            for one, other in pairs_of(table):
                found = bad_pair(table, one, other)
                if plain_fine(table):
                    self.assertIsNone(found)
                    continue
                self.assertEqual(list(found), further(table, one, other))
                self.assertTrue(fails(table, one, other, found))
                self.assertIs(is_bad_pair(table, one, other, found), True)
        self.assertEqual(bad_pair(table=RING, one=0, other=1), {})

    def test_is_bad_pair(self):
        for table in (TURNING, ring_table((2, 2, 2)), OWN, RING, Table((2,) * 3, (2, 1, 2), ((0, 0, 0), (1, 0, 1)) * 4),
                      quiet_table((2, 2), (2, 2))):
            for one, other in pairs_of(table):
                every = every_known(table, one, other)
                right = [known for known in every if fails(table, one, other, known)]
                wrong = [known for known in every if not fails(table, one, other, known)]
                wrong += [bad for bad in wrong_further(table, one, other) if bad not in right]
                for value in right:
                    self.assertIs(is_bad_pair(table, one, other, value), True)
                    self.assertIs(is_bad_pair(thing=value, other=other, one=one, table=table), True)
                for value in wrong + [value for value in OTHER_KINDS if value != {}]:
                    self.assertIs(is_bad_pair(table, one, other, value), False, value)

    def test_is_bad_pair_takes_no_bools(self):
        table = ring_table((2, 2, 2))
        self.assertIs(is_bad_pair(table, 0, 2, {1: (0, 1)}), True)
        self.assertIs(is_bad_pair(table, 0, 2, {True: (0, 1)}), False)
        self.assertIs(is_bad_pair(table, 0, 2, {1: (False, True)}), False)

    def test_wrong_values(self):
        table = quiet_table((2, 3, 2, 1), (2, 2, 3, 2))
        good = {"table": table, "one": 1, "other": 2}
        wrong = {"table": (BadTable, wrong_tables(table)), "one": (BadRoom, wrong_numbers(4)),
                 "other": (BadRoom, wrong_numbers(4) + [0, 1])}
        known = {0: (0, 1), 3: (0, 0)}
        self.refuses(pair_table, {**good, "known": known}, {**wrong, "known": (BadKnown, wrong_further(table, 1, 2))})
        self.refuses(hearing, {**good, "known": known}, {**wrong, "known": (BadKnown, wrong_further(table, 1, 2))})
        self.refuses(bad_pair, good, wrong)
        self.refuses(is_bad_pair, {**good, "thing": known}, wrong)
        for other in (0, 1, 2):
            self.refused(BadRoom, pair_table, table, 2, other, known)
        for bad in wrong_further(OWN, 0, 1):
            self.refused(BadKnown, pair_table, OWN, 0, 1, bad)
        for function, more in ((pair_table, [{}]), (hearing, [{}]), (bad_pair, []), (is_bad_pair, [{}])):
            self.refused(BadRoom, function, ZERO_ALWAYS, 0, 0, *more)
            self.refused(BadRoom, function, ZERO_ALWAYS, 0, 1, *more)


class Heard(Case):
    def test_all_pairs(self):
        draw = random.Random(21)
        for table in [table for table in whole_families() if plain_fine(table)] + fine_tables(2):
            led = clock(table) is not None
            for _ in range(3):
                rules = random_rules(draw, table)
                wanted = []
                for one, other in pairs_of(table):
                    known = {room: rules[room] for room in further(table, one, other)}
                    left = outcome(table, one, other, known)
                    wanted += [(other, one)] * plain_hears(left, 1, 0) + [(one, other)] * plain_hears(left, 0, 1)
                found = heard(table, rules)
                self.assertEqual(found, sorted(wanted))
                self.assertFalse([pair for pair in found if pair[::-1] in found])
                self.assertFalse(led and self.goes_round(found, len(table.sends)))

    def goes_round(self, pairs, rooms):
        left = list(range(rooms))
        while left:
            ready = [room for room in left if not any(b == room and a in left for a, b in pairs)]
            if not ready:
                return True
            left = [room for room in left if room not in ready]
        return False

    def test_by_hand(self):
        self.assertEqual(heard(table=TURNING, rules=SAME), [(0, 1), (1, 2), (2, 0)])
        self.assertTrue(self.goes_round(heard(TURNING, SAME), 3))
        self.assertEqual(heard(ZERO_ALWAYS, ((0, 1),)), [])
        table = Table((2, 2), (1, 2), ((0, 0), (0, 0), (0, 1), (0, 1)))
        self.assertEqual(heard(table, ((0,), (0, 1))), [(0, 1)])

    def test_wrong_values(self):
        for table in (TURNING, RING):
            self.refuses(heard, {"table": table, "rules": zero_rules(table)},
                         {"table": (BadTable, wrong_tables(table)), "rules": (BadRules, wrong_rules(table))})
        self.refused(NotFine, heard, RING, zero_rules(RING))


def plain_talks(table, speaker, hearer):
    lines = brings(table)
    found = []
    for one, other in combinations(lines, 2):
        here, there = lines[one], lines[other]
        if (one[speaker] != other[speaker] and one[hearer] == other[hearer] and here[hearer] != there[hearer]
                and all(one[k] == other[k] or here[k] != there[k] for k in further(table, speaker, hearer))):
            found.append((one, other))
    return found


def two_ways(table):
    rooms = range(len(table.sends))
    return [(speaker, hearer) for speaker in rooms for hearer in rooms if speaker != hearer]


class Talks(Case):
    def test_the_first_talk(self):
        talking = 0
        for table in whole_families() + some_tables(2):
            told = {}
            for speaker, hearer in two_ways(table):
                every = plain_talks(table, speaker, hearer)
                self.assertEqual(talk(table, speaker, hearer), min(every) if every else None)
                told[speaker, hearer] = every
            self.assertEqual(tellings(table), sorted(pair for pair in told if told[pair]))
            talking += len(tellings(table))
        self.assertGreater(talking, 100)

    def test_is_talk_and_talk_rules(self):
        for table in whole_families()[::9] + some_tables(1):
            every = rows(table.sends)
            for speaker, hearer in two_ways(table):
                right = plain_talks(table, speaker, hearer)
                for one in every:
                    for other in every:
                        self.assertIs(is_talk(table, speaker, hearer, (one, other)), (one, other) in right)
                for found in right:
                    self.assertIs(is_talk(thing=found, hearer=hearer, speaker=speaker, table=table), True)
                    self.assertIs(is_talk(table, speaker, hearer, list(found)), False)
                    self.assertIs(is_talk(table, speaker, hearer, found[::-1]), False)
                    rules = talk_rules(table, speaker, hearer, found)
                    self.assertEqual(list(rules), further(table, speaker, hearer))
                    self.assertEqual(rules, self.plain_rules(table, speaker, hearer, found))

    def plain_rules(self, table, speaker, hearer, found):
        told = {}
        for room in further(table, speaker, hearer):
            notes = [brings(table)[sent][room] for sent in found]
            told[room] = tuple(found[notes.index(note)][room] if note in notes else 0
                               for note in range(table.takes[room]))
        return told

    def test_heart_in_fine_tables(self):
        for table in [table for table in whole_families() if plain_fine(table)] + fine_tables(3):
            for speaker, hearer in two_ways(table):
                one, other = sorted((speaker, hearer))
                found = talk(table, speaker, hearer)
                if found is not None:
                    told = hearing(table, one, other, talk_rules(table, speaker, hearer, found))
                    self.assertTrue(told[0] if hearer == one else told[1])
                elif len(every_known(table, one, other)) <= 100:
                    for known in every_known(table, one, other):
                        told = hearing(table, one, other, known)
                        self.assertFalse(told[0] if hearer == one else told[1])

    def test_facts_of_tellings_in_fine_tables(self):
        for table in [table for table in whole_families() if plain_fine(table)] + fine_tables(3):
            told = tellings(table)
            straight = hears(table)
            self.assertTrue(set(straight) <= set(told))
            far = set(straight)
            for _ in table.sends:
                far |= {(a, d) for a, b in far for c, d in straight if b == c}
            self.assertTrue(set(told) <= far)

    def test_by_hand(self):
        self.assertEqual(talk(table=TURNING, speaker=0, hearer=1), ((0, 0, 0), (1, 0, 0)))
        self.assertEqual(tellings(table=TURNING), [(0, 1), (0, 2), (1, 0), (1, 2), (2, 0), (2, 1)])
        self.assertEqual(talk_rules(table=TURNING, speaker=0, hearer=1, talk=((0, 0, 0), (1, 0, 0))), {2: (0, 0)})
        self.assertEqual(tellings(quiet_table((2, 2, 2), (2, 2, 2))), [])
        self.assertEqual(tellings(ZERO_ALWAYS), [])
        self.assertIsNone(talk(quiet_table((2, 2), (2, 2)), 1, 0))
        self.assertEqual(talk_rules(RING, 1, 0, ((0, 0), (0, 1))), {})

    def test_six_rooms(self):
        ring = ring_table((2,) * 6)
        self.assertEqual(talk(ring, 5, 0), ((0,) * 6, (0,) * 5 + (1,)))
        self.assertEqual(talk_rules(ring, 5, 0, talk(ring, 5, 0)), {room: (0, 0) for room in (1, 2, 3, 4)})
        self.assertEqual(tellings(quiet_table((2,) * 6, (2,) * 6)), [])

    def test_wrong_values(self):
        good = {"table": TURNING, "speaker": 0, "hearer": 1}
        wrong = {"table": (BadTable, wrong_tables(TURNING)), "speaker": (BadRoom, wrong_numbers(3)),
                 "hearer": (BadRoom, wrong_numbers(3) + [0])}
        talks = [None, True, "", (), [], ((0, 0, 0),), [(0, 0, 0), (1, 0, 0)], ((1, 0, 0), (0, 0, 0)), TURNING,
                 ((0, 0, 0), (0, 0, 0)), ((0, 0, 0), (1, 0, 0), (1, 0, 0)), {0: (0, 0, 0), 1: (1, 0, 0)},
                 ((0, 0, 0), (1, 0, 1)), deep_value(), ((0, 0, 0), (True, 0, 0)), ((False, 0, 0), (1, 0, 0))]
        talks += [((0, 0, 0), bad) for bad in wrong_rows((2, 2, 2))]
        talks += [(bad, (1, 0, 0)) for bad in wrong_sendings(TURNING)]
        self.refuses(talk, good, wrong)
        self.refuses(is_talk, {**good, "thing": None}, wrong)
        self.refuses(talk_rules, {**good, "talk": ((0, 0, 0), (1, 0, 0))}, {**wrong, "talk": (BadTalk, talks)})
        for bad in talks:
            self.assertIs(is_talk(TURNING, 0, 1, bad), False)
        for function in (talk, is_talk, talk_rules):
            more = [] if function is talk else [None]
            self.refused(BadRoom, function, ZERO_ALWAYS, 0, 0, *more)
        self.refuses(tellings, {"table": RING}, {"table": (BadTable, wrong_tables(RING))})
        for value in OTHER_KINDS:
            self.assertIs(is_talk(TURNING, 0, 1, value), False)


class Fixed(Case):
    def test_rules_of_talks_are_new(self):
        found = talk_rules(TURNING, 0, 1, ((0, 0, 0), (1, 0, 0)))
        found.clear()
        self.assertEqual(talk_rules(TURNING, 0, 1, ((0, 0, 0), (1, 0, 0))), {2: (0, 0)})
        self.assertEqual(len(every_rules(TURNING)), 64)
