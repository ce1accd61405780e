import random

from onestory.counts import difference, differences, first_clash, story_counts
from onestory.errors import BadRules, BadSending, BadTable, TooMany
from onestory.stories import all_rules
from onestory.tables import Table, quiet_table, ring_table, turning_table
from tests.samples import Case, answered, clocked_table, every_rules, plain_fine, plain_stories, random_rules
from tests.samples import random_table, rows, some_tables, whole_families, wrong_rules, wrong_sendings, wrong_tables
from tests.samples import zero_rules

RING = ring_table((2, 2))


def plain_counts(table):
    found = {}
    for rules in every_rules(table):
        many = len(plain_stories(table, rules))
        found[many] = found.get(many, 0) + 1
    return dict(sorted(found.items()))


class Counts(Case):
    def holds(self, table, found):
        self.assertEqual(list(found), sorted(found))
        self.assertEqual(sum(found.values()), all_rules(table))
        self.assertEqual(sum(number * many for number, many in found.items()), all_rules(table))
        fine = plain_fine(table)
        self.assertEqual(found == {1: all_rules(table)}, fine)
        self.assertEqual(0 not in found, fine)
        self.assertEqual(max(found) <= 1, fine)

    def test_all_rules_of_small_tables(self):
        for table in whole_families() + some_tables(2):
            if len(every_rules(table)) <= 300:
                found = story_counts(table)
                self.assertEqual(found, plain_counts(table))
                self.holds(table, found)

    def test_greater_tables(self):
        draw = random.Random(8)
        for sends, takes in [((2,) * 6, (2,) * 6), ((2,) * 6, (3, 2, 2, 2, 2, 2)), ((8, 8), (2, 2)), ((64,), (2,)),
                             ((2, 5), (5, 4)), ((4, 4, 4), (2, 2, 3))]:
            for table in (random_table(draw, sends, takes), clocked_table(draw, sends, takes)):
                self.holds(table, story_counts(table))
        # What goes round a ring of six twos is one to one in 2 to the 6 ways; else it comes back to one number.
        self.assertEqual(story_counts(ring_table((2,) * 6)), {0: 32, 1: 4096 - 64, 2: 32})

    def test_example(self):
        self.assertEqual(story_counts(table=RING), {0: 2, 1: 12, 2: 2})
        self.assertEqual(story_counts(turning_table()), {1: 64})
        self.assertEqual(story_counts(quiet_table((1, 1), (64, 64))), {1: 1})

    def test_exactly_20000_rules_and_more(self):
        table = Table((2, 5), (5, 4), ((0, 3),) * 10)
        self.assertEqual(all_rules(table), 20000)
        self.assertEqual(story_counts(table), {1: 20000})
        for sends, takes in [((2, 3), (5, 6)), ((2,), (15,)), ((28, 2), (3, 1)), ((3, 3), (9, 1)),
                             ((2,) * 6, (64,) * 6), ((64,), (64,))]:
            many = quiet_table(sends, takes)
            self.assertGreater(all_rules(many), 20000)
            self.assertEqual(self.refused(TooMany, story_counts, many).most, 20000)

    def test_a_fresh_dict(self):
        story_counts(RING).clear()
        self.assertEqual(story_counts(RING), {0: 2, 1: 12, 2: 2})

    def test_wrong_tables(self):
        self.refuses(story_counts, {"table": RING}, {"table": (BadTable, wrong_tables(RING))})


class Differences(Case):
    def wanted(self, table, rules, sent):
        there = answered(table, rules, sent)
        return tuple((sent[k] - there[k]) % table.sends[k] for k in range(len(sent)))

    def test_what_they_are(self):
        draw = random.Random(6)
        for table in whole_families() + some_tables(2):
            for _ in range(3):
                rules = random_rules(draw, table)
                every = [self.wanted(table, rules, sent) for sent in rows(table.sends)]
                self.assertEqual(differences(table, rules), every)
                self.assertEqual([difference(table, rules, sent) for sent in rows(table.sends)], every)

    def test_by_hand(self):
        table = ring_table((2, 3))
        rules = ((1, 0, 1), (2, 2))
        self.assertEqual(difference(table=table, rules=rules, sending=(0, 0)), (1, 1))
        self.assertEqual(difference(table, rules, (1, 1)), (1, 2))
        self.assertEqual(differences(rules=rules, table=table), [(1, 1), (0, 2), (1, 0), (0, 1), (1, 2), (0, 0)])
        self.assertIsNone(first_clash(table, rules))

    def test_first_clash(self):
        draw = random.Random(7)
        clashes = 0
        for table in whole_families() + some_tables(3):
            rules = random_rules(draw, table)
            told = dict(zip(rows(table.sends), differences(table, rules)))
            pairs = [(one, other) for one in told for other in told if one < other and told[one] == told[other]]
            self.assertEqual(first_clash(table, rules), min(pairs) if pairs else None)
            clashes += len(pairs) > 1
        self.assertGreater(clashes, 20)
        self.assertEqual(first_clash(table=RING, rules=((0, 1), (0, 1))), ((0, 0), (1, 1)))

    def test_heart_no_clash_for_all_rules_exactly_if_fine(self):
        for table in whole_families() + some_tables(1):
            if len(every_rules(table)) > 100:
                continue
            clash = [first_clash(table, rules) for rules in every_rules(table)]
            self.assertEqual(all(pair is None for pair in clash), plain_fine(table))
            if plain_fine(table):
                for rules in every_rules(table):
                    self.assertEqual(sorted(differences(table, rules)), rows(table.sends))

    def test_wrong_values(self):
        table = ring_table((2, 3))
        good = {"table": table, "rules": zero_rules(table)}
        wrong = {"table": (BadTable, wrong_tables(table)), "rules": (BadRules, wrong_rules(table))}
        self.refuses(differences, good, wrong)
        self.refuses(first_clash, good, wrong)
        self.refuses(difference, {**good, "sending": (1, 2)},
                     {**wrong, "sending": (BadSending, wrong_sendings(table))})
