import random
from fractions import Fraction
from itertools import product
from math import prod

from onestory.errors import BadMixed, BadTable
from onestory.mixed import are_mixed, mean_stories, shares, whole
from onestory.tables import quiet_table, ring_table, turning_table
from tests.samples import Case, brings, deep_value, every_rules, plain_fine, plain_stories, rows, some_tables
from tests.samples import whole_families, wrong_tables

RING = ring_table((2, 2))
TURNING = turning_table()
EXAMPLE = (((1, 1), (0, 2)),) * 3
UNLIKE = quiet_table((2, 3), (1, 2))
GOOD = (((1, 4),), ((0, 0, 99), (33, 0, 66)))


def random_mixed(draw, table, total=6):
    def told(numbers):
        found = [0] * numbers
        for _ in range(total):
            found[draw.randrange(numbers)] += 1
        return tuple(found)
    return tuple(tuple(told(sent) for _ in range(taken)) for sent, taken in zip(table.sends, table.takes))


def alone(table, rules):
    """Mixed rules that say just what these rules say."""
    return tuple(tuple(tuple(int(number == said) for number in range(sent)) for said in rule)
                 for sent, rule in zip(table.sends, rules))


def plain_shares(table, mixed):
    found = {sent: prod(mixed[k][received[k]][sent[k]] for k in range(len(sent)))
             for sent, received in brings(table).items()}
    return {sent: share for sent, share in found.items() if share}


def wrong_mixed():
    first, second = GOOD
    found = [None, True, 0, "mixed", (), [first, second], (first,), GOOD + (first,), {0: first, 1: second}, (GOOD,),
             UNLIKE, deep_value(), ((), second), ([(1, 4)], second), (((1, 4), (1, 4)), second), (None, second),
             (first, ((0, 0, 99),)), (first, (99, 99)), (first, ()), (first, None), (first, {0: (0, 0, 9)})]
    for told in [None, (), [1, 4], (5,), (1, 4, 0), (1, -1), (True, 4), (1, False), (0, 0), (100, 0), (1, None), "14",
                 (1, (4,)), {0: 1, 1: 4}, (999999999, 0), 5]:
        found.append(((told,), second))
    for told in [(33, 0, 65), (0, 0, 0), (98, 2, 0), (33, 0, 67), (33, 66), (33, 0, 66, 0), [33, 0, 66], (100, 0, 0),
                 (33, False, 66), (-1, 1, 99), (100, -1, 0)]:
        found.append((first, ((0, 0, 99), told)))
        found.append((first, (told, (0, 0, 99))))
    return found


class Judged(Case):
    def test_are_mixed(self):
        right = [GOOD, (((0, 1),), ((1, 0, 0), (0, 1, 0))), (((99, 99),), ((99, 99, 99), (99, 99, 99))),
                 (((99, 0),), ((0, 1, 1), (2, 0, 0)))]
        self.judges(are_mixed, (UNLIKE,), right, wrong_mixed())
        self.judges(are_mixed, (quiet_table((1,), (2,)),), [(((1,), (1,)),), (((99,), (99,)),)],
                    [(((1,), (2,)),), (((0,), (0,)),), (((1,),),), (((1,), (True,)),)])
        self.judges(are_mixed, (TURNING,), [EXAMPLE], [EXAMPLE[:2], list(EXAMPLE), EXAMPLE + EXAMPLE[:1]])

    def test_six_rooms_and_sixty_four_numbers(self):
        self.assertIs(are_mixed(quiet_table((64,), (1,)), (((1,) * 64,),)), True)
        self.assertEqual(whole(quiet_table((64,), (1,)), (((99,) * 64,),)), 99 * 64)
        self.assertEqual(whole(quiet_table((2,) * 6, (1,) * 6), (((99, 99),),) * 6), 198 ** 6)

    def test_wrong_values(self):
        for function in (whole, shares, mean_stories):
            self.refuses(function, {"table": UNLIKE, "mixed": GOOD},
                         {"table": (BadTable, wrong_tables(UNLIKE)), "mixed": (BadMixed, wrong_mixed())})
        self.refuses(are_mixed, {"table": UNLIKE, "thing": GOOD}, {"table": (BadTable, wrong_tables(UNLIKE))})


class Shares(Case):
    def test_the_example(self):
        self.assertEqual(whole(TURNING, EXAMPLE), 8)
        found = shares(table=TURNING, mixed=EXAMPLE)
        self.assertEqual(list(found.items()),
                         [((0, 0, 0), 1), ((0, 1, 1), 2), ((1, 0, 1), 2), ((1, 1, 0), 2), ((1, 1, 1), 1)])
        self.assertEqual(mean_stories(table=TURNING, mixed=EXAMPLE), (1, 1))

    def test_a_share_of_0_and_of_99(self):
        self.assertEqual(whole(table=UNLIKE, mixed=GOOD), 5 * 99)
        self.assertEqual(shares(UNLIKE, GOOD), {(0, 2): 99, (1, 2): 396})
        mixed = (((99, 0), (0, 99)), ((0, 99), (99, 0)))
        self.assertEqual(shares(RING, mixed), {})
        self.assertEqual(mean_stories(RING, mixed), (0, 1))
        self.assertEqual(mean_stories(RING, (((99, 0), (0, 99)),) * 2), (2, 1))

    def test_as_reckoned(self):
        draw = random.Random(9)
        for table in whole_families() + some_tables(2):
            for _ in range(3):
                mixed = random_mixed(draw, table)
                told = plain_shares(table, mixed)
                self.assertIs(are_mixed(table, mixed), True)
                self.assertEqual(shares(table, mixed), told)
                self.assertEqual(list(shares(table, mixed)), sorted(told))
                self.assertEqual(whole(table, mixed), 6 ** len(table.sends))
                mean = Fraction(sum(told.values()), whole(table, mixed))
                self.assertEqual(mean_stories(table, mixed), (mean.numerator, mean.denominator))

    def test_heart_fine_tables_for_mixed_rules(self):
        draw = random.Random(10)
        for table in whole_families() + some_tables(3):
            if plain_fine(table):
                for _ in range(5):
                    mixed = random_mixed(draw, table, draw.randrange(1, 20))
                    self.assertEqual(sum(shares(table, mixed).values()), whole(table, mixed))
                    self.assertEqual(mean_stories(table, mixed), (1, 1))

    def test_heart_all_small_mixed_rules(self):
        for table in whole_families():
            if len(every_rules(table)) > 16:
                continue
            told = [[row for row in rows((3,) * sent) if sum(row) == 2] for sent in table.sends]
            rooms = [list(product(told[k], repeat=taken)) for k, taken in enumerate(table.takes)]
            even = all(mean_stories(table, mixed) == (1, 1) for mixed in list(product(*rooms))[::3])
            always = all(mean_stories(table, alone(table, rules)) == (1, 1) for rules in every_rules(table))
            self.assertEqual(always, plain_fine(table))
            self.assertTrue(even or not always)

    def test_rules_alone_have_their_stories_as_shares(self):
        for table in whole_families():
            for rules in every_rules(table)[::5]:
                self.assertEqual(shares(table, alone(table, rules)), {sent: 1 for sent in plain_stories(table, rules)})

    def test_equal_shares_have_one_in_the_mean(self):
        for table in whole_families() + some_tables(1):
            mixed = tuple(((7,) * sent,) * taken for sent, taken in zip(table.sends, table.takes))
            self.assertEqual(mean_stories(table, mixed), (1, 1))
