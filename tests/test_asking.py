"""[91] Which of several tables it is, or what the story is, by the fewest questions."""

import random
from itertools import combinations

from onestory.asking import (are_asking_ranks, asking_ranks, asking_tree, fewest_asked, is_asking_tree, reply,
                             settled_lots)
from onestory.errors import BadAim, BadIndex, BadNumber, BadQuestion, BadTables, TooMany
from onestory.tables import Table, quiet_table, ring_table, turning_table
from tests.samples import (ZERO_ALWAYS, Case, brings, clocked_table, deep_value, every_rules, fine_of, otherwise,
                           plain_stories, random_rules, rows, same, wandered_table, wrong_rows, wrong_rules)

RING = ring_table((2, 2))
TURNING = turning_table()
QUIET = quiet_table((2, 2), (2, 2))
A = Table((2, 2), (2, 2), tuple((0, a) for a, _ in rows((2, 2))))
B = Table((2, 2), (2, 2), tuple((b, 0) for _, b in rows((2, 2))))
ABC = [A, B, QUIET]
WHICH = ("which",)
STORY = ("story", ((1, 0), (0, 1)))


def questions(tables, aim):
    return every_rules(tables[0]) if aim == WHICH else rows(tables[0].sends)


def plain_reply(table, aim, question):
    return plain_stories(table, question)[0] if aim == WHICH else brings(table)[question]


class Plain:
    """All that is told about some tables, by a search of its own."""

    def __init__(self, tables, aim):
        self.tables, self.aim = tables, aim
        size = len(tables)
        if aim == WHICH:
            self.kind = [[plain_stories(table, rules) for rules in every_rules(tables[0])] for table in tables]
        else:
            self.kind = [plain_stories(table, aim[1]) for table in tables]
        self.lots = sorted(lot for many in range(1, size + 1) for lot in combinations(range(size), many))
        self.replies = [[plain_reply(table, aim, question) for table in tables] for question in questions(tables, aim)]
        self.known = {}

    def settled(self, lot):
        return all(self.kind[k] == self.kind[lot[0]] for k in lot)

    def parts(self, lot, replies):
        return [tuple(k for k in lot if replies[k] == told) for told in {replies[k] for k in lot}]

    def within(self, lot, number):
        """Whether so many questions are enough for the lot."""
        if self.settled(lot):
            return True
        if number == 0:
            return False
        if (lot, number) not in self.known:
            self.known[lot, number] = any(all(self.within(part, number - 1) for part in self.parts(lot, replies))
                                          for replies in self.replies)
        return self.known[lot, number]

    def fewest(self):
        return min(n for n in range(9) if self.within(self.lots_of_all(), n))

    def lots_of_all(self):
        return tuple(range(len(self.tables)))

    def is_tree(self, lot, number, thing):
        if thing.__class__ is not tuple or thing == ():
            return False
        if same(thing, ("known",)):
            return self.settled(lot)
        if number == 0 or len(thing) != 3 or not same(thing[0], "ask") or thing[2].__class__ is not dict:
            return False
        every = questions(self.tables, self.aim)
        at = [k for k, question in enumerate(every) if same(question, thing[1])]
        if not at:
            return False
        told = {self.replies[at[0]][k] for k in lot}
        if len(thing[2]) != len(told) or not all(any(same(key, right) for right in told) for key in thing[2]):
            return False
        return all(self.is_tree(tuple(k for k in lot if self.replies[at[0]][k] == key), number - 1, tree)
                   for key, tree in thing[2].items())

    def are_ranks(self, number, thing):
        if thing.__class__ is not dict or not all(any(same(lot, right) for right in self.lots) for lot in thing):
            return False
        if not all(rank.__class__ is int and rank >= 1 for rank in thing.values()):
            return False
        if thing.get(self.lots_of_all(), 0) < number or any(self.settled(lot) for lot in thing):
            return False
        return all(any(thing.get(part, 0) >= rank - 1 for part in self.parts(lot, replies))
                   for lot, rank in thing.items() if rank > 1 for replies in self.replies)


def some_cases(many, seed=910):
    """Lists of fine tables with aims."""
    draw = random.Random(seed)
    found = [(ABC, WHICH), (ABC, STORY), ([A], WHICH), ([A], STORY), ([A, A, A], WHICH), ([B, B], STORY)]
    for sends, takes, ways in [((2, 2), (2, 2), 12), ((2,), (2,), 2), ((2, 1), (2, 2), 9), ((1, 1), (2, 3), 6),
                               ((3, 2), (2, 1), 99)]:
        for _ in range(many):
            tables = [draw.choice(fine_of(sends, takes)) for _ in range(draw.choice((2, 4, 6, 8)))]
            found.append((tables, WHICH))
            found.append((tables, ("story", random_rules(draw, tables[0]))))
    for sends, takes in [((2, 2, 2), (2, 2, 2)), ((2, 2, 2, 2), (2, 2, 2, 2)), ((3, 3), (2, 2)),
                         ((2, 2, 2), (1, 2, 2))]:
        for _ in range(many):
            start = clocked_table(draw, sends, takes)
            tables = [wandered_table(draw, draw.choice([start, clocked_table(draw, sends, takes)]), 6)
                      for _ in range(draw.choice((3, 8)))]
            found.append((tables, ("story", random_rules(draw, tables[0]))))
            if len(every_rules(tables[0])) <= 300 and sends != (2, 2, 2, 2):
                found.append((tables, WHICH))
    return found


WRONG_TABLES = [None, True, 0, (), [], {}, "tables", A, [None], [A, None], [A, RING], [RING], [A, TURNING],
                [QUIET, quiet_table((2, 2), (2, 3))],
                [QUIET, quiet_table((2, 3), (2, 2))], [QUIET, quiet_table((4, 1), (2, 2))], [A] * 9,
                {0: A}, [[A]], (A, (B,)), deep_value()]
WRONG_AIMS = [None, True, 0, "which", (), ["which"], ("story",), ("which", ()), ("which", STORY[1]),
              ["story", STORY[1]], ("story", STORY[1], ()),
              ("other",), ("story", ()), ("story", None), (None,), (("which",),), {"which": 0},
              ("story", ((1, 0), (0, 2))), ("story", ((True, 0), (0, 1))), ("story", [(1, 0), (0, 1)]),
              ("story", ((1, 0), (0, 1), (0, 1))), (STORY[1], "story"), A, (A,), deep_value()]


class Replies(Case):
    def test_reply(self):
        for tables, aim in some_cases(1):
            for index, table in enumerate(tables):
                for question in questions(tables, aim)[::3]:
                    self.assertTrue(same(reply(tables, aim, index, question), plain_reply(table, aim, question)))
        self.assertEqual(reply(tables=ABC, aim=STORY, index=0, question=(1, 0)), (0, 1))
        self.assertEqual(reply(tables=tuple(ABC), aim=WHICH, index=1, question=((1, 0), (0, 1))), (1, 0))

    def test_settled_lots(self):
        for tables, aim in some_cases(2):
            plain = Plain(tables, aim)
            found = settled_lots(tables, aim)
            self.assertTrue(same(found, [lot for lot in plain.lots if plain.settled(lot)]))
        self.assertEqual(settled_lots(tables=ABC, aim=STORY), [(0,), (1,), (1, 2), (2,)])
        self.assertEqual(settled_lots(ABC, WHICH), [(0,), (1,), (2,)])
        self.assertEqual(settled_lots([A, A], WHICH), [(0,), (0, 1), (1,)])
        # Rooms that send one number alone may receive what they like.
        one = quiet_table((2, 1), (2, 2))
        other = Table((2, 1), (2, 2), ((0, 1), (0, 0)))
        self.assertEqual(settled_lots([one, other], WHICH), [(0,), (0, 1), (1,)])

    def test_wrong_values(self):
        good = {"tables": ABC, "aim": WHICH}
        wrong = {"tables": (BadTables, WRONG_TABLES), "aim": (BadAim, WRONG_AIMS)}
        numbers = [None, True, -1, 10, "1", (1,), 999999999, deep_value()]
        self.refuses(settled_lots, good, wrong)
        self.refuses(asking_tree, good, wrong)
        self.refuses(fewest_asked, good, wrong)
        index = {"index": (BadIndex, [None, True, False, -1, 3, "0", (0,), deep_value()])}
        rules = wrong_rules(A)
        self.refuses(reply, {**good, "index": 1, "question": STORY[1]}, {**wrong, **index, "question": (
            BadQuestion, rules + [(0, 0)])})
        self.refuses(reply, {"tables": ABC, "aim": STORY, "index": 1, "question": (0, 1)}, {
            **wrong, **index, "question": (BadQuestion, wrong_rows((2, 2)) + [STORY[1]])})
        self.refuses(is_asking_tree, {**good, "number": 1, "thing": None}, {**wrong, "number": (BadNumber, numbers)})
        for function, more in [(asking_ranks, {}), (are_asking_ranks, {"thing": None})]:
            self.refuses(function, {**good, "number": 1, **more},
                         {**wrong, "number": (BadNumber, numbers + [0, False])})

    def test_too_many(self):
        for sends, takes in [((2, 19), (4, 1)), ((7,), (3,)), ((2, 2, 2), (3, 3, 3)), ((2,) * 6, (64,) * 6)]:
            tables = [quiet_table(sends, takes)]
            rules = tuple((0,) * taken for taken in takes)
            for function, given in [(settled_lots, ()), (asking_tree, ()), (fewest_asked, ()), (reply, (0, rules)),
                                    (is_asking_tree, (0, ("known",))), (asking_ranks, (1,)),
                                    (are_asking_ranks, (1, {}))]:
                self.assertEqual(self.refused(TooMany, function, tables, WHICH, *given).most, 300)
            self.refused(BadIndex, reply, tables, WHICH, 1, rules)
            self.refused(BadQuestion, reply, tables, WHICH, 0, None)
            self.refused(BadNumber, is_asking_tree, tables, WHICH, 10, None)
            self.refused(BadNumber, asking_ranks, tables, WHICH, 0)
            self.refused(BadNumber, are_asking_ranks, tables, WHICH, 0, None)
            # There are never too many sendings.
            self.assertEqual(fewest_asked(tables, ("story", rules)), 0)
            self.assertEqual(reply(tables, ("story", rules), 0, (0,) * len(sends)), (0,) * len(sends))
        self.assertEqual(len(every_rules(quiet_table((2, 3, 5), (2, 1, 2)))), 300)
        self.assertEqual(fewest_asked([quiet_table((2, 3, 5), (2, 1, 2))], WHICH), 0)
        self.assertEqual(asking_tree([quiet_table((17,), (2,))], WHICH), ("known",))


class Trees(Case):
    def test_heart_a_tree_or_ranks(self):
        depths = set()
        for tables, aim in some_cases(3):
            plain = Plain(tables, aim)
            fewest = plain.fewest()
            depths.add(fewest)
            self.assertEqual(fewest_asked(tables, aim), fewest)
            tree = asking_tree(tables, aim)
            self.assertTrue(len(tree) == 1 or list(tree[2]) == sorted(tree[2]))
            every = plain.lots_of_all()
            for number in range(10):
                right = number >= fewest
                self.assertEqual(plain.is_tree(every, number, tree), right)
                self.assertIs(is_asking_tree(tables, aim, number, tree), right)
            for number in range(1, 10):
                ranks = asking_ranks(tables, aim, number)
                self.assertEqual(ranks is None, fewest < number)
                if ranks is not None:
                    self.assertEqual(list(ranks), sorted(ranks))
                    self.assertTrue(plain.are_ranks(number, ranks))
                    self.assertIs(are_asking_ranks(tables, aim, number, ranks), True)
        self.assertTrue({0, 1, 2} <= depths)

    def test_facts_on_how_many_are_enough(self):
        for tables, aim in some_cases(3):
            fewest = fewest_asked(tables, aim)
            self.assertLess(fewest, len(tables))
            if aim != WHICH:
                self.assertLess(fewest, len({plain_stories(table, aim[1])[0] for table in tables}))

    def test_many_questions(self):
        # Each table but the last one is told apart at a sending of its own alone.
        notes = [tuple((int(at == k),) for at in range(8)) for k in range(8)]
        tables = [Table((1, 8), (2, 1), tuple((note, 0) for (note,) in line)) for line in notes]
        self.assertEqual(fewest_asked(tables, WHICH), 0)
        tables = [Table((2, 8), (2, 1), tuple((note, 0) for (note,) in line * 2)) for line in notes]
        rules = ((0, 1), (7,))
        self.assertEqual(fewest_asked(tables, ("story", rules)), 1)
        self.assertEqual(fewest_asked(tables[:7] + [quiet_table((2, 8), (2, 1))], ("story", rules)), 0)

    def test_by_hand(self):
        self.assertEqual(fewest_asked(tables=ABC, aim=STORY), 1)
        tree = ("ask", (1, 0), {(0, 1): ("known",), (0, 0): ("known",)})
        self.assertIs(is_asking_tree(tables=ABC, aim=STORY, number=1, thing=tree), True)
        self.assertEqual(fewest_asked(ABC, WHICH), 1)
        tree = ("ask", ((1, 0), (1, 0)), {(1, 0): ("known",), (0, 1): ("known",), (1, 1): ("known",)})
        self.assertIs(is_asking_tree(ABC, WHICH, 1, tree), True)
        two = ("ask", ((0, 1), (1, 0)), {(0, 1): ("ask", ((1, 0), (1, 0)), {(1, 0): ("known",), (1, 1): ("known",)}),
                                         (1, 1): ("known",)})
        self.assertIs(is_asking_tree(ABC, WHICH, 2, two), True)
        self.assertIs(is_asking_tree(ABC, WHICH, 1, two), False)
        idle = ("ask", ((0, 1), (0, 1)), {(0, 0): tree})
        self.assertIs(is_asking_tree(ABC, WHICH, 2, idle), True)
        self.assertIs(is_asking_tree([A], WHICH, 1, ("ask", ((0, 0), (0, 0)), {(0, 0): ("known",)})), True)
        self.assertIs(is_asking_tree([A], WHICH, 0, ("known",)), True)
        self.assertIs(is_asking_tree(ABC, WHICH, 9, ("known",)), False)
        ranks = asking_ranks(tables=ABC, aim=WHICH, number=1)
        self.assertIs(are_asking_ranks(tables=ABC, aim=WHICH, number=1, thing=ranks), True)

    def test_trees_with_one_thing_otherwise(self):
        for tables, aim in [(ABC, WHICH), (ABC, STORY)] + some_cases(1)[-6:]:
            tables = tables[:4]
            plain = Plain(tables, aim)
            tree = asking_tree(tables, aim)
            number = plain.fewest() + 1
            for value in otherwise(tree)[:600:2]:
                self.assertIs(is_asking_tree(tables, aim, number, value),
                              plain.is_tree(plain.lots_of_all(), number, value), value)
            self.judges(is_asking_tree, (tables, aim, number), [tree], [])

    def test_ranks_with_one_thing_otherwise(self):
        for tables, aim in [(ABC, WHICH), (ABC, STORY)] + some_cases(2)[-9:]:
            tables = tables[:4]
            plain = Plain(tables, aim)
            fewest = plain.fewest()
            if fewest == 0:
                continue
            ranks = asking_ranks(tables, aim, fewest)
            back = dict(sorted(ranks.items(), reverse=True))
            for value in otherwise(ranks)[::3]:
                self.assertIs(are_asking_ranks(tables, aim, fewest, value), plain.are_ranks(fewest, value), value)
            self.judges(are_asking_ranks, (tables, aim, fewest), [ranks, back], [])
            self.judges(are_asking_ranks, (tables, aim, fewest + 1), [], [ranks])

    def test_results_are_new(self):
        tree = asking_tree(ABC, WHICH)
        tree[2].clear()
        self.assertIs(is_asking_tree(ABC, WHICH, 1, asking_tree(ABC, WHICH)), True)
        tables = list(ABC)
        asking_ranks(tables, WHICH, 1).clear()
        self.assertEqual(tables, ABC)
        self.assertEqual(len(settled_lots([ZERO_ALWAYS], WHICH)), 1)
