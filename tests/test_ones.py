import random
from itertools import permutations

from onestory.errors import BadRules, BadSending, BadTable, NotFine
from onestory.ones import course, is_course, the_story
from onestory.tables import Table, quiet_table, ring_table, turning_table
from tests.samples import Case, brings, clocked_table, every_rules, fine_tables, plain_fine, plain_stories
from tests.samples import random_rules, rows, whole_families, wrong_numbers, wrong_rules, wrong_sendings
from tests.samples import wrong_tables, zero_rules

RING = ring_table((2, 3))
TURNING = turning_table()
SAME = ((0, 1),) * 3


def leads(table, rules, sent, rooms):
    """Whether these rooms, one after another, are a course."""
    for room in rooms:
        told = rules[room][brings(table)[sent][room]]
        if told == sent[room]:
            return False
        sent = sent[:room] + (told,) + sent[room + 1:]
    return sent in plain_stories(table, rules)


def every_course(table, rules, sent):
    rooms = range(len(table.sends))
    return [list(way) for many in range(len(rooms) + 1) for way in permutations(rooms, many)
            if leads(table, rules, sent, way)]


class Story(Case):
    def test_all_rules_of_fine_tables(self):
        for table in whole_families() + fine_tables(2):
            if not plain_fine(table):
                continue
            for rules in every_rules(table)[:200]:
                self.assertEqual([the_story(table, rules)], plain_stories(table, rules))
        self.assertEqual(the_story(table=TURNING, rules=SAME), (0, 0, 0))

    def test_six_rooms(self):
        draw = random.Random(12)
        for _ in range(3):
            table = clocked_table(draw, (2,) * 6, (2,) * 6)
            for _ in range(20):
                rules = random_rules(draw, table)
                self.assertEqual([the_story(table, rules)], plain_stories(table, rules))

    def test_wrong_values(self):
        good = {"table": TURNING, "rules": SAME}
        wrong = {"table": (BadTable, wrong_tables(TURNING)), "rules": (BadRules, wrong_rules(TURNING))}
        self.refuses(the_story, good, wrong)
        self.refuses(course, {**good, "sending": (1, 1, 1)},
                     {**wrong, "sending": (BadSending, wrong_sendings(TURNING))})
        self.refuses(is_course, {**good, "sending": (1, 1, 1), "thing": []},
                     {**wrong, "sending": (BadSending, wrong_sendings(TURNING))})

    def test_not_fine_behind_the_others(self):
        good = {"table": RING, "rules": zero_rules(RING)}
        self.refused(NotFine, the_story, **good)
        self.refused(NotFine, course, **good, sending=(0, 0))
        wrong = {"table": (BadTable, wrong_tables(RING)), "rules": (BadRules, wrong_rules(RING))}
        self.refuses(the_story, good, wrong)
        self.refuses(course, {**good, "sending": (0, 0)}, {**wrong, "sending": (BadSending, wrong_sendings(RING))})


class Courses(Case):
    def test_heart_in_a_fine_table_from_every_sending(self):
        for table in whole_families() + fine_tables(2):
            if not plain_fine(table):
                continue
            draw = random.Random(13)
            for rules in every_rules(table)[:16] + [random_rules(draw, table)]:
                story = plain_stories(table, rules)[0]
                for sent in rows(table.sends):
                    rooms = course(table, rules, sent)
                    self.assertIs(rooms.__class__, list)
                    self.assertEqual(sorted(rooms), [k for k in range(len(sent)) if sent[k] != story[k]])
                    self.assertTrue(leads(table, rules, sent, rooms))
                    self.assertIs(is_course(table, rules, sent, rooms), True)

    def test_heart_otherwise_some_rules_have_no_story_with_a_course_from_everywhere(self):
        for table in whole_families():
            if plain_fine(table):
                continue
            whole = []
            for rules in every_rules(table):
                told = plain_stories(table, rules)
                whole.append(any(all(any(self.ends(table, rules, sent, way) == story
                                         for way in every_course(table, rules, sent)) for sent in rows(table.sends))
                                 for story in told))
            self.assertFalse(all(whole))

    def ends(self, table, rules, sent, rooms):
        for room in rooms:
            sent = sent[:room] + (rules[room][brings(table)[sent][room]],) + sent[room + 1:]
        return sent

    def test_is_course_in_any_table(self):
        draw = random.Random(14)
        tables = whole_families()[::7] + [TURNING, ring_table((2, 2, 2)), RING, Table((3,), (3,), ((0,), (1,), (2,)))]
        seen = 0
        for table in tables:
            rules = random_rules(draw, table)
            for sent in rows(table.sends):
                right = every_course(table, rules, sent)
                rooms = range(len(sent))
                wrong = [list(way) for many in range(len(rooms) + 1) for way in permutations(rooms, many)
                         if list(way) not in right]
                wrong += [[0, 0], [len(rooms)], [-1], [True], [False], [None], ["0"], [[0]], "0", None, {}, {0: 0}]
                for way in right:
                    self.assertIs(is_course(table, rules, sent, way), True)
                    self.assertIs(is_course(table, rules, sent, tuple(way)), True)
                for way in wrong:
                    self.assertIs(is_course(table, rules, sent, way), False)
                seen += len(right)
        self.assertGreater(seen, 100)

    def test_the_example(self):
        self.assertEqual(course(TURNING, SAME, (1, 0, 0)), [0])
        self.assertEqual(every_course(TURNING, SAME, (1, 1, 1)), [[0, 1, 2], [1, 2, 0], [2, 0, 1]])
        for way in permutations(range(3)):
            self.assertIs(is_course(TURNING, SAME, (1, 1, 1), list(way)), list(way) in
                          [[0, 1, 2], [1, 2, 0], [2, 0, 1]])
        self.assertIn(course(table=TURNING, rules=SAME, sending=(1, 1, 1)), [[0, 1, 2], [1, 2, 0], [2, 0, 1]])
        self.assertEqual(course(TURNING, SAME, (0, 0, 0)), [])
        self.judges(is_course, (TURNING, SAME, (0, 0, 0)), [[], ()], [[0], (1,), {}, None, "", [[]]])
        self.judges(is_course, (TURNING, SAME, (1, 0, 0)), [[0], (0,)], [[room] for room in wrong_numbers(1)])

    def test_a_course_has_each_room_once(self):
        # With two numbers more than one room can be led round: there and back is no course.
        table = quiet_table((2,), (1,))
        self.assertIs(is_course(table, ((0,),), (1,), [0]), True)
        self.assertIs(is_course(table, ((0,),), (1,), [0, 0]), False)
        own = ring_table((3,))
        self.assertIs(is_course(own, ((1, 2, 2),), (0,), [0, 0]), False)
        self.assertIs(is_course(own, ((1, 2, 2),), (1,), [0]), True)
