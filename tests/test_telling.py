"""[90] Which of two fine tables it is, by stories alone."""

import random

from onestory.errors import BadSending, BadTable, NotFine, OtherSizes
from onestory.tables import Table, quiet_table, ring_table, turning_table
from onestory.telling import checking_rules, is_checking, is_telling, same_stories, telling_rules
from tests.samples import (ZERO_ALWAYS, Case, brings, clocked_table, every_rules, fine_of, fine_tables, otherwise,
                           plain_stories, random_rules, rows, wandered_table, wrong_rules, wrong_sendings,
                           wrong_tables)

RING = ring_table((2, 2))
TURNING = turning_table()
QUIET = quiet_table((2, 2), (2, 2))
# Room 1 receives what room 0 sends; room 0 receives what room 1 sends.
A = Table((2, 2), (2, 2), tuple((0, a) for a, _ in rows((2, 2))))
B = Table((2, 2), (2, 2), tuple((b, 0) for _, b in rows((2, 2))))
SMALL = [((2,), (2,)), ((2,), (3,)), ((3,), (2,)), ((2, 2), (2, 2)), ((2, 1), (2, 2)), ((1, 2), (1, 2)), ((1,), (3,)),
         ((1, 1), (2, 2)), ((3, 2), (2, 1)), ((2, 2), (1, 3))]


def speakers(table):
    return [k for k, size in enumerate(table.sends) if size > 1]


def checks(table, sending, rules):
    """As the document tells it: by all other fine tables of these sizes."""
    if plain_stories(table, rules) != [sending]:
        return False
    here = brings(table)[sending]
    for other in fine_of(table.sends, table.takes):
        alike = all(brings(other)[sending][k] == here[k] for k in speakers(table))
        if (plain_stories(other, rules) == [sending]) != alike:
            return False
    return True


class Checking(Case):
    def test_heart_against_all_fine_tables(self):
        seen = set()
        for sends, takes in SMALL:
            tables = fine_of(sends, takes)
            for table in tables[:4] + tables[-2:]:
                for sending in rows(sends):
                    found = checking_rules(table, sending)
                    self.assertTrue(checks(table, sending, found))
                    for rules in every_rules(table)[::3]:
                        right = checks(table, sending, rules)
                        seen.add(right)
                        self.assertIs(is_checking(table, sending, rules), right)
        self.assertEqual(seen, {True, False})

    def test_greater_tables(self):
        draw = random.Random(900)
        for table in fine_tables(2):
            for sending in rows(table.sends)[::3]:
                found = checking_rules(table, sending)
                self.assertEqual(plain_stories(table, found), [sending])
                self.assertIs(is_checking(table, sending, found), True)
                other = wandered_table(draw, clocked_table(draw, table.sends, table.takes), 5)
                alike = all(brings(other)[sending][k] == brings(table)[sending][k] for k in speakers(table))
                self.assertEqual(plain_stories(other, found) == [sending], alike)

    def test_is_checking(self):
        right = checking_rules(table=TURNING, sending=(1, 0, 1))
        wrong = [value for value in otherwise(right) + wrong_rules(TURNING) if value != right]
        self.judges(is_checking, (TURNING, (1, 0, 1)), [right], wrong)
        self.judges(is_checking, (quiet_table((1, 2), (2, 2)), (0, 1)), [((0, 0), (1, 0))],
                    [((0, 0), (1, 1)), ((0, 0), (0, 1)), ((0, 1), (1, 0)), ((False, 0), (1, 0)), ((0, 0), (True, 0))])
        self.judges(is_checking, (quiet_table((3,), (3,)), (1,)), [((1, 0, 2),), ((1, 2, 2),)],
                    [((1, 1, 2),), ((0, 1, 2),), ((1, 3, 2),)])
        self.assertEqual(checking_rules(quiet_table((1,), (3,)), (0,)), ((0, 0, 0),))

    def test_wrong_values(self):
        good = {"table": TURNING, "sending": (0, 1, 0)}
        wrong = {"table": (BadTable, wrong_tables(RING)), "sending": (BadSending, wrong_sendings(TURNING))}
        self.refuses(checking_rules, good, wrong)
        self.refuses(is_checking, {**good, "thing": None}, wrong)
        self.refused(NotFine, checking_rules, RING, None)
        self.refused(NotFine, is_checking, RING, None, None)


class Telling(Case):
    def test_heart_against_all_rules(self):
        seen = set()
        for sends, takes in SMALL:
            tables = fine_of(sends, takes)
            every = every_rules(tables[0])
            told = [[plain_stories(table, rules) for rules in every] for table in tables]
            for one, here in list(zip(tables, told))[::3]:
                for other, there in zip(tables, told):
                    same = here == there
                    seen.add((same, one == other))
                    self.assertIs(same_stories(one, other), same)
                    rules = telling_rules(one, other)
                    self.assertEqual(rules is None, same)
                    if not same:
                        self.assertNotEqual(plain_stories(one, rules), plain_stories(other, rules))
                        self.assertIs(is_telling(one, other, rules), True)
                    for at in range(0, len(every), 5):
                        self.assertIs(is_telling(one, other, every[at]), here[at] != there[at])
        self.assertEqual(seen, {(True, True), (True, False), (False, False)})

    def test_greater_tables(self):
        draw = random.Random(901)
        for table in fine_tables(1):
            other = wandered_table(draw, table, 3)
            alike = all(brings(table)[sent][k] == brings(other)[sent][k] for sent in brings(table)
                        for k in speakers(table))
            self.assertIs(same_stories(table, other), alike)
            rules = telling_rules(table, other)
            self.assertEqual(rules is None, alike)
            for thing in [rules] * (not alike) + [random_rules(draw, table) for _ in range(4)]:
                right = plain_stories(table, thing) != plain_stories(other, thing)
                self.assertIs(is_telling(table, other, thing), right)

    def test_by_hand(self):
        rules = ((1, 0), (0, 1))
        self.assertEqual((plain_stories(A, rules), plain_stories(B, rules)), ([(1, 1)], [(1, 0)]))
        self.assertIs(is_telling(one=A, other=B, thing=rules), True)
        self.assertIs(same_stories(one=A, other=B), False)
        self.assertIs(is_telling(A, B, telling_rules(one=A, other=B)), True)
        self.assertIsNone(telling_rules(A, A))

    def test_is_telling(self):
        rules = ((1, 0), (0, 1))
        wrong = [value for value in otherwise(rules) + wrong_rules(A) if value not in every_rules(A)]
        self.judges(is_telling, (A, B), [rules, ((1, 0), (1, 0))],
                    wrong + [((0, 0), (0, 0)), ((0, 1), (0, 1)), ((True, 0), (0, 1)), ((1, False), (0, 1))])

    def test_wrong_values(self):
        for function, more in [(telling_rules, {}), (is_telling, {"thing": None}), (same_stories, {})]:
            self.refuses(function, {"one": A, "other": B, **more},
                         {"one": (BadTable, wrong_tables(RING)), "other": (BadTable, wrong_tables(RING))})
            for one, other in [(A, TURNING), (QUIET, quiet_table((2, 2), (2, 3))), (ZERO_ALWAYS, A),
                               (quiet_table((2, 3), (1, 1)), quiet_table((3, 2), (1, 1)))]:
                self.refused(OtherSizes, function, one, other, *more.values())
            self.refused(NotFine, function, A, RING, *more.values())
            self.refused(NotFine, function, A, ring_table((2, 2, 2)), *more.values())

    def test_what_is_wrong_with_one_comes_ahead_of_other(self):
        for function, more in [(telling_rules, ()), (is_telling, (None,)), (same_stories, ())]:
            for other in wrong_tables(RING) + [RING, A, TURNING]:
                self.refused(NotFine, function, RING, other, *more)
                self.refused(BadTable, function, None, other, *more)
            for one in (A, TURNING):
                for other in wrong_tables(RING):
                    self.refused(BadTable, function, one, other, *more)
                self.refused(NotFine, function, one, RING, *more)
