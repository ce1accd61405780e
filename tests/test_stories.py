import random

from onestory.errors import BadRoom, BadRules, BadSending, BadTable
from onestory.stories import all_rules, answer, are_rules, is_rule, is_story, rules_for, stories
from onestory.tables import Table, quiet_table, ring_table, sendings, turning_table
from tests.samples import Case, answered, every_rules, plain_stories, random_rules, random_table, rows, rules_of_room
from tests.samples import some_tables, whole_families, wrong_numbers, wrong_rule, wrong_rules, wrong_sendings
from tests.samples import wrong_tables, zero_rules

RING = ring_table((2, 2))
BOTH = ((0, 1), (0, 1))
NONE = ((0, 1), (1, 0))
ALONE = ((0, 0), (0, 1))
UNLIKE = random_table(random.Random(5), (2, 3), (3, 1))


class Rules(Case):
    def test_is_rule(self):
        for table in (RING, UNLIKE, quiet_table((1, 4), (2, 2)), turning_table()):
            for room in range(len(table.sends)):
                self.judges(is_rule, (table, room), rules_of_room(table, room), wrong_rule(table, room))

    def test_are_rules(self):
        for table in (RING, UNLIKE, quiet_table((1, 4), (2, 2)), quiet_table((2,), (2,))):
            self.judges(are_rules, (table,), every_rules(table), wrong_rules(table))

    def test_six_rooms_and_sixty_four_numbers(self):
        six = quiet_table((2,) * 6, (64,) * 6)
        self.assertTrue(are_rules(six, ((0, 1) * 32,) * 6))
        self.assertFalse(are_rules(six, ((0, 1) * 32,) * 5 + ((0, 1) * 31 + (0, 2),)))
        self.assertTrue(is_rule(quiet_table((64,), (1,)), 0, (63,)))
        self.assertFalse(is_rule(quiet_table((64,), (1,)), 0, (64,)))

    def test_wrong_values(self):
        self.refuses(is_rule, {"table": RING, "room": 1, "thing": (0, 1)},
                     {"table": (BadTable, wrong_tables(RING)), "room": (BadRoom, wrong_numbers(2))})
        self.refuses(are_rules, {"table": RING, "thing": BOTH}, {"table": (BadTable, wrong_tables(RING))})


class Answers(Case):
    def test_what_the_rules_make_of_the_delivery(self):
        for table in whole_families() + some_tables(1):
            draw = random.Random(3)
            for _ in range(3):
                rules = random_rules(draw, table)
                for sent in rows(table.sends):
                    self.assertEqual(answer(table, rules, sent), answered(table, rules, sent))
        self.assertEqual(answer(sending=(0, 1), rules=NONE, table=RING), (1, 1))

    def test_wrong_values(self):
        self.refuses(answer, {"table": UNLIKE, "rules": zero_rules(UNLIKE), "sending": (1, 2)},
                     {"table": (BadTable, wrong_tables(UNLIKE)), "rules": (BadRules, wrong_rules(UNLIKE)),
                      "sending": (BadSending, wrong_sendings(UNLIKE))})


class Stories(Case):
    def test_the_example(self):
        self.assertEqual(stories(RING, BOTH), [(0, 0), (1, 1)])
        self.assertEqual(stories(RING, NONE), [])
        self.assertEqual(stories(table=RING, rules=ALONE), [(0, 0)])

    def test_all_of_them(self):
        for table in whole_families():
            for rules in every_rules(table):
                self.assertEqual(stories(table, rules), plain_stories(table, rules))
        draw = random.Random(4)
        for table in some_tables(2):
            for _ in range(4):
                rules = random_rules(draw, table)
                found = stories(table, rules)
                self.assertEqual(found, plain_stories(table, rules))
                found.append("changed")
                self.assertEqual(stories(table, rules), plain_stories(table, rules))

    def test_is_story(self):
        for rules in (BOTH, NONE, ALONE):
            right = plain_stories(RING, rules)
            wrong = [sent for sent in rows((2, 2)) if sent not in right]
            self.judges(is_story, (RING, rules), right, wrong + wrong_sendings(RING))

    def test_great_tables(self):
        table = ring_table((2,) * 6)
        self.assertEqual(stories(table, ((0, 1),) * 6), [(0,) * 6, (1,) * 6])
        self.assertEqual(stories(ring_table((64,)), (tuple(range(64)),)), sendings((64,)))

    def test_wrong_values(self):
        good = {"table": UNLIKE, "rules": zero_rules(UNLIKE)}
        wrong = {"table": (BadTable, wrong_tables(UNLIKE)), "rules": (BadRules, wrong_rules(UNLIKE))}
        self.refuses(stories, good, wrong)
        self.refuses(is_story, {**good, "thing": (0, 0)}, wrong)


class HowMany(Case):
    def test_all_rules(self):
        for table in whole_families():
            self.assertEqual(all_rules(table), len(every_rules(table)))
        self.assertEqual(all_rules(table=quiet_table((2,) * 6, (64,) * 6)), 2 ** 384)
        self.assertEqual(all_rules(quiet_table((64,), (64,))), 64 ** 64)
        self.assertEqual(all_rules(quiet_table((1,) * 6, (64,) * 6)), 1)

    def test_rules_for_is_the_same_for_each_sending_of_any_table(self):
        for table in whole_families() + some_tables(1):
            if len(every_rules(table)) > 100:
                continue
            told = [sent for rules in every_rules(table) for sent in plain_stories(table, rules)]
            for sent in rows(table.sends):
                self.assertEqual(rules_for(table, sent), told.count(sent))
        self.assertEqual(rules_for(sending=(0, 1), table=Table((2, 5), (5, 2), ((4, 1),) * 10)), 16 * 5)
        self.assertEqual(rules_for(quiet_table((64,), (1,)), (63,)), 1)

    def test_wrong_values(self):
        self.refuses(all_rules, {"table": RING}, {"table": (BadTable, wrong_tables(RING))})
        self.refuses(rules_for, {"table": UNLIKE, "sending": (1, 2)},
                     {"table": (BadTable, wrong_tables(UNLIKE)), "sending": (BadSending, wrong_sendings(UNLIKE))})
