from onestory.barren import is_none, is_two, no_story, two_stories
from onestory.errors import BadTable
from onestory.fine import is_paper, paper
from onestory.tables import Table, quiet_table, ring_table, turning_table
from tests.samples import GUARDED, Case, every_rules, plain_fine, plain_stories, rows, some_tables, whole_families
from tests.samples import wrong_rules, wrong_sendings, wrong_tables

RING = ring_table((2, 2))


def few_rules(tables, most=300):
    return [table for table in tables if len(every_rules(table)) <= most]


class Heart(Case):
    def holds(self, table):
        counts = {rules: len(plain_stories(table, rules)) for rules in every_rules(table)}
        two, none = two_stories(table), no_story(table)
        if is_paper(table, paper(table)):
            self.assertEqual(set(counts.values()), {1})
            self.assertIsNone(two)
            self.assertIsNone(none)
            return
        self.assertIsNone(paper(table))
        self.assertTrue(max(counts.values()) >= 2 and min(counts.values()) == 0)
        rules, one, other = two
        self.assertIs(two.__class__, tuple)
        self.assertTrue(one < other)
        self.assertIn(one, plain_stories(table, rules))
        self.assertIn(other, plain_stories(table, rules))
        self.assertEqual(counts[none], 0)
        self.assertIs(is_two(table, two), True)
        self.assertIs(is_none(table, none), True)

    def test_all_tables_of_small_sizes_all_rules(self):
        for table in whole_families():
            self.holds(table)

    def test_all_tables_of_two_unlike_rooms_all_rules(self):
        notes = [(a, b) for a in range(2) for b in range(2)]
        for a in notes:
            for b in notes:
                for c in notes:
                    self.holds(Table((3, 2), (2, 2), (a, b, c, b, (0, 0), a)))

    def test_greater_tables_all_rules(self):
        for table in few_rules(some_tables(4)):
            self.holds(table)

    def test_great_tables(self):
        for table in some_tables(3, 2) + GUARDED + [ring_table((2,) * 6), ring_table((8, 8)), ring_table((64,)),
                                                    ring_table((1, 64)), ring_table((4, 4, 4))]:
            two, none = two_stories(table), no_story(table)
            if plain_fine(table):
                self.assertIsNone(two)
                self.assertIsNone(none)
            else:
                self.assertTrue({two[1], two[2]} <= set(plain_stories(table, two[0])))
                self.assertTrue(two[1] < two[2])
                self.assertEqual(plain_stories(table, none), [])
                self.assertIs(is_none(table, none), True)
                self.assertIs(is_two(table, two), True)

    def test_examples(self):
        for table in (quiet_table((2, 2), (1, 1)), turning_table(), quiet_table((1,), (1,)), quiet_table((64,), (1,))):
            self.assertIsNone(two_stories(table=table))
            self.assertIsNone(no_story(table=table))


class Judged(Case):
    def test_is_two(self):
        every = rows((2, 2))
        for rules in every_rules(RING):
            told = plain_stories(RING, rules)
            for one in every:
                for other in every:
                    wanted = one < other and one in told and other in told
                    self.assertIs(is_two(RING, (rules, one, other)), wanted)
        rules, one, other = ((0, 1), (0, 1)), (0, 0), (1, 1)
        wrong = [[rules, one, other], (rules, other, one), (rules, one, one), (rules, one), (rules, one, other, one),
                 (rules, (one, other)), (rules, [0, 0], other), (rules, one, [1, 1])]
        wrong += [(bad, one, other) for bad in wrong_rules(RING)]
        wrong += [(rules, bad, other) for bad in wrong_sendings(RING)]
        wrong += [(rules, one, bad) for bad in wrong_sendings(RING)]
        self.judges(is_two, (RING,), [(rules, one, other)], wrong)
        self.judges(is_two, (ring_table((3,)),), [(((0, 0, 2),), (0,), (2,))], [(((0, 0, 2),), (0,), (1,))])
        self.judges(is_two, (turning_table(),), [], [(((0, 1),) * 3, (0, 0, 0), (1, 1, 1))])

    def test_is_none(self):
        for table in (RING, ring_table((2,)), turning_table(), ring_table((3,))):
            right = [rules for rules in every_rules(table) if not plain_stories(table, rules)]
            others = [rules for rules in every_rules(table) if plain_stories(table, rules)]
            wrong = others + wrong_rules(table) + [[list(rule) for rule in rules] for rules in right]
            self.judges(is_none, (table,), right, wrong + [list(rules) for rules in right])

    def test_bools_are_no_numbers(self):
        self.assertIs(is_none(RING, ((0, True), (1, 0))), False)
        self.assertIs(is_two(RING, (((0, 1), (0, 1)), (False, 0), (1, 1))), False)

    def test_wrong_tables(self):
        for function in (two_stories, no_story):
            self.refuses(function, {"table": RING}, {"table": (BadTable, wrong_tables(RING))})
        for function in (is_two, is_none):
            self.refuses(function, {"table": RING, "thing": None}, {"table": (BadTable, wrong_tables(RING))})
