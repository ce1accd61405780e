"""[112] Safe ways by binding: passages, fences, heights."""

import random
from functools import lru_cache

from onestory.errors import BadMost, BadNumber, BadRules, BadSafe, BadSending, BadTable, NotFine, NotSafe
from onestory.leads import (are_heights, binding_step, fence, fewest_changes, heights, is_binding_step, is_fence,
                            is_passage, least_most, parting, passage)
from onestory.ones import the_story
from onestory.tables import Table, quiet_table, ring_table, turning_table
from tests.samples import (Case, clocked_table, deep_value, every_rules, fine_of, fine_tables, is_exact, otherwise,
                           parting_rooms, plain_stories, random_rules, rows, same, spark_four, wandered_table,
                           wrong_numbers, wrong_rules, wrong_sendings, wrong_tables)

RING = ring_table((2, 2))
TURNING = turning_table()
QUIET = quiet_table((2, 2), (2, 2))
ZERO = ((0, 0),) * 3
ONE = ((1, 1),) * 3
ENDS = ((0, 0, 0), (1, 1, 1))
# Room 0 receives 0, rooms 1 and 2 receive what room 0 sends.
LED = Table((2, 2, 2), (2, 2, 2), tuple((0, a, a) for a, _, _ in rows((2, 2, 2))))


def unlike(rules, others):
    return sum(rule != other for rule, other in zip(rules, others))


class Ways:
    """A search of its own through all rules of a small table."""

    def __init__(self, table):
        self.rules = every_rules(table)
        self.story = {rules: plain_stories(table, rules)[0] for rules in self.rules}
        self.steps = {(one, other): unlike(one, other) for one in self.rules for other in self.rules}

    def fewest(self, safe, start, most):
        """For all rules that safe steps lead to how often the story changes, at least."""
        found = {start: 0}
        last, changes = [start], 0
        while last:
            for one in last:
                for other in self.rules:
                    if (other not in found and self.story[other] == self.story[one]
                            and self.steps[one, other] <= most):
                        found[other] = changes
                        last.append(other)
            changes += 1
            further = []
            for other in self.rules:
                if other not in found and self.story[other] in safe and any(
                        self.steps[one, other] <= most for one in last):
                    found[other] = changes
                    further.append(other)
            last = further
        return found


@lru_cache(maxsize=None)
def ways_of(sends, takes, notes):
    return Ways(Table(sends, takes, notes))


def small_tables():
    found = [TURNING, LED, QUIET] + fine_of((2, 2), (2, 2))[::3] + fine_of((2,), (2,)) + fine_of((2, 2), (1, 2))
    found += [quiet_table((2, 2, 2), (1, 1, 2)), quiet_table((3, 2), (1, 2)), quiet_table((2, 1), (2, 2))]
    draw = random.Random(1120)
    return found + [wandered_table(draw, TURNING, 8) for _ in range(2)]


def some_cases(many, seed=1121):
    """Small tables with safe sendings and two rules with safe stories."""
    draw = random.Random(seed)
    found = []
    for table in small_tables():
        for _ in range(many):
            start, goal = random_rules(draw, table), random_rules(draw, table)
            ends = {the_story(table, start), the_story(table, goal)}
            safe = tuple(sorted(ends | {sent for sent in rows(table.sends) if draw.randrange(3) == 0}))
            found.append((table, safe, start, goal))
    return found


def great_cases(many, seed=1122):
    draw = random.Random(seed)
    found = []
    for sends, takes in [((2,) * 4, (2,) * 4), ((3, 3, 2), (2, 2, 2)), ((2,) * 6, (2, 3, 2, 1, 2, 2)), ((8, 8), (3, 2)),
                         ((1,), (1,)), ((64,), (2,)), ((2, 1, 2), (2, 2, 2))]:
        for _ in range(many):
            table = wandered_table(draw, clocked_table(draw, sends, takes), 3)
            start, goal = random_rules(draw, table), random_rules(draw, table)
            ends = {the_story(table, start), the_story(table, goal)}
            safe = tuple(sorted(ends | {sent for sent in rows(sends) if draw.randrange(4) == 0}))
            found.append((table, safe, start, goal))
    return found


def plain_is_passage(table, safe, start, goal, most, thing):
    if thing.__class__ not in (list, tuple) or len(thing) == 0:
        return False
    if not all(is_rules(table, rules) for rules in thing) or thing[0] != start or thing[-1] != goal:
        return False
    if not all(plain_stories(table, rules)[0] in safe for rules in thing):
        return False
    return all(unlike(one, other) <= most for one, other in zip(thing, thing[1:]))


def is_rules(table, thing):
    if thing.__class__ is not tuple or len(thing) != len(table.sends):
        return False
    return all(rule.__class__ is tuple and len(rule) == taken and all(is_exact(x, int, 0, sent) for x in rule)
               for rule, taken, sent in zip(thing, table.takes, table.sends))


def plain_is_fence(table, safe, here, there, most, thing):
    if thing.__class__ is not tuple or not all(any(same(sent, other) for other in safe) for sent in thing):
        return False
    if list(thing) != sorted(set(thing)) or here not in thing or there in thing:
        return False
    return all(len(parting_rooms(table, sent, other)) > most for sent in thing for other in safe if other not in thing)


def plain_are_heights(table, safe, here, there, most, number, thing):
    if thing.__class__ is not dict or len(thing) != len(safe):
        return False
    if not all(any(same(sent, other) for other in safe) for sent in thing):
        return False
    if not all(is_exact(height, int, 0) for height in thing.values()) or thing[here] != 0 or thing[there] < number:
        return False
    return all(abs(thing[one] - thing[other]) <= 1 for one in safe for other in safe
               if len(parting_rooms(table, one, other)) <= most)


def changes_on(table, thing):
    stories = [plain_stories(table, rules)[0] for rules in thing]
    return sum(one != other for one, other in zip(stories, stories[1:]))


class Steps(Case):
    def test_parting(self):
        for table in fine_tables(1) + small_tables():
            every = rows(table.sends)
            for one in every[::2]:
                for other in every:
                    self.assertTrue(same(parting(table, one, other), tuple(parting_rooms(table, one, other))))
        self.assertEqual(parting(table=TURNING, one=(0, 0, 0), other=(1, 1, 1)), (0, 1, 2))
        self.assertEqual(parting(table=LED, one=(1, 1, 1), other=(0, 0, 0)), (0,))
        self.assertEqual(parting(TURNING, (0, 1, 0), (0, 1, 0)), ())

    def test_binding_step(self):
        for table in fine_tables(1) + small_tables():
            every = rows(table.sends)
            for one in every[::3]:
                for other in every:
                    found = binding_step(table, one, other)
                    self.assertEqual([plain_stories(table, rules) for rules in found], [[one], [other]])
                    apart = [k for k in range(len(one)) if found[0][k] != found[1][k]]
                    self.assertEqual(apart, parting_rooms(table, one, other))
                    self.assertIs(is_binding_step(table, one, other, found), True)

    def test_is_binding_step(self):
        for table in [TURNING, LED, QUIET]:
            every = every_rules(table)
            sent = rows(table.sends)
            for one, other in [(sent[0], sent[-1]), (sent[-1], sent[1]), (sent[1], sent[1])]:
                right = binding_step(table=table, one=one, other=other)
                for first in every[::3]:
                    for second in every[::5] + [first]:
                        wanted = (plain_stories(table, first) == [one] and plain_stories(table, second) == [other]
                                  and all(first[k] == second[k] or k in parting_rooms(table, one, other)
                                          for k in range(len(one))))
                        self.assertIs(is_binding_step(table, one, other, (first, second)), wanted)
                wrong = [(rules, right[1]) for rules in wrong_rules(table)] + [
                    (right[0], rules) for rules in wrong_rules(table)] + [right + right[:1], right[:1], list(right)]
                self.judges(is_binding_step, (table, one, other), [right], wrong + [right[::-1]] * (one != other))

    def test_fact_rules_are_unlike_in_all_rooms_that_part_their_stories(self):
        for table in small_tables():
            every = every_rules(table)[::5]
            for first in every:
                for second in every:
                    one, other = the_story(table, first), the_story(table, second)
                    self.assertTrue(all(first[k] != second[k] for k in parting(table, one, other)))

    def test_wrong_values(self):
        good = {"table": TURNING, "one": (0, 0, 0), "other": (1, 0, 1)}
        wrong = {"table": (BadTable, wrong_tables(RING)), "one": (BadSending, wrong_sendings(TURNING)),
                 "other": (BadSending, wrong_sendings(TURNING))}
        self.refuses(parting, good, wrong)
        self.refuses(binding_step, good, wrong)
        self.refuses(is_binding_step, {**good, "thing": None}, wrong)
        for function, more in [(parting, ()), (binding_step, ()), (is_binding_step, (None,))]:
            self.refused(NotFine, function, RING, None, None, *more)


class Passages(Case):
    def check(self, table, safe, start, goal, most):
        """What the functions find, judged one by one; how often the story changes, or None."""
        here, there = the_story(table, start), the_story(table, goal)
        rooms = len(table.sends)
        given = (table, safe, start, goal, most)
        found, border, changes = passage(*given), fence(*given), fewest_changes(*given)
        self.assertEqual((found is None, border is None), (changes is None, changes is not None))
        if found is None:
            self.assertTrue(plain_is_fence(table, safe, here, there, most, border))
            self.assertIs(is_fence(*given, border), True)
        else:
            self.assertTrue(plain_is_passage(*given, found))
            self.assertIs(is_passage(*given, found), True)
            self.assertEqual(changes_on(table, found), changes)
            self.assertLessEqual(len(found), 1 + rooms * (1 + changes))
        for number in (0, 1, 2, 3, 7, 99):
            high = heights(*given, number)
            self.assertEqual(high is None, changes is not None and changes < number)
            if high is not None:
                self.assertTrue(plain_are_heights(table, safe, here, there, most, number, high))
                self.assertEqual(list(high), list(safe))
                self.assertIs(are_heights(*given, number, high), True)
        return changes

    def test_heart_against_a_search_through_all_rules(self):
        seen = set()
        for table, safe, start, goal in some_cases(8):
            ways = ways_of(table.sends, table.takes, table.notes)
            for most in range(1, len(table.sends) + 1):
                changes = self.check(table, safe, start, goal, most)
                seen.add(changes)
                self.assertEqual(changes, ways.fewest(safe, start, most).get(goal))
        self.assertTrue({None, 0, 1, 2} <= seen)

    def test_greater_tables(self):
        seen = set()
        for table, safe, start, goal in great_cases(3):
            for most in range(1, len(table.sends) + 1):
                seen.add(self.check(table, safe, start, goal, most))
            self.check(table, tuple(rows(table.sends)), start, goal, 1)
        self.assertIn(1, seen)

    def test_least_most(self):
        for table, safe, start, goal in some_cases(5) + great_cases(2):
            found = least_most(table, safe, start, goal)
            rooms = range(1, len(table.sends) + 1)
            self.assertEqual(found, min(most for most in rooms if fence(table, safe, start, goal, most) is None))
            here, there = the_story(table, start), the_story(table, goal)
            self.assertLessEqual(found, max(1, sum(x != y for x, y in zip(here, there))))
            if here == there:
                self.assertEqual(found, 1)
            self.assertEqual(least_most(table, tuple(rows(table.sends)), start, goal), 1)
            for third in [binding_step(table, sent, sent)[0] for sent in safe]:
                self.assertLessEqual(found, max(least_most(table, safe, start, third),
                                                least_most(table, safe, third, goal)))

    def test_by_hand(self):
        given = {"table": TURNING, "safe": ENDS, "start": ZERO, "goal": ONE}
        self.assertEqual(passage(**given, most=3), [ZERO, ONE])
        self.assertEqual([passage(**given, most=most) for most in (1, 2)], [None, None])
        self.assertEqual(fence(**given, most=2), ((0, 0, 0),))
        self.assertIs(is_fence(**given, most=2, thing=((0, 0, 0),)), True)
        self.assertIs(is_fence(**given, most=3, thing=((0, 0, 0),)), False)
        self.assertEqual((least_most(**given), fewest_changes(**given, most=3)), (3, 1))
        self.assertIsNone(fewest_changes(**given, most=2))
        self.assertEqual(heights(**given, most=2, number=9)[0, 0, 0], 0)
        self.assertIs(are_heights(**given, most=2, number=9, thing={(0, 0, 0): 0, (1, 1, 1): 99}), True)
        three = quiet_table((2, 2, 2), (1, 1, 1))
        safe = ((0, 0, 0), (0, 0, 1), (0, 1, 1), (1, 1, 0))
        self.assertEqual(fence(three, safe, ((0,), (1,), (1,)), ((1,), (1,), (0,)), 1), safe[:3])
        self.assertEqual(heights(three, safe, ((0,), (1,), (1,)), ((1,), (1,), (0,)), 1, 9),
                         {(0, 0, 0): 2, (0, 0, 1): 1, (0, 1, 1): 0, (1, 1, 0): 9})
        given["table"] = LED
        found = passage(**given, most=1)
        # Rooms 1 and 2 are bound to send what they receive; room 0 changes; then these send 1 always.
        self.assertEqual(found, [ZERO, ((0, 0), (0, 1), (0, 0)), ((0, 0), (0, 1), (0, 1)), ((1, 1), (0, 1), (0, 1)),
                                 ((1, 1), (1, 1), (0, 1)), ONE])
        self.assertEqual((least_most(**given), fewest_changes(**given, most=1)), (1, 1))

    def test_the_same_rules(self):
        for table, safe, start, _ in some_cases(1):
            self.assertEqual(passage(table, safe, start, start, 1), [start])
            self.assertEqual(fewest_changes(table, safe, start, start, 1), 0)
            self.assertIs(is_passage(table, safe, start, start, 1, [start]), True)
            self.assertIs(is_passage(table, safe, start, start, 1, [start, start]), True)
            self.assertIs(is_passage(table, safe, start, start, 1, []), False)
            self.assertIsNone(fence(table, safe, start, start, 1))

    def test_passages_with_one_thing_otherwise(self):
        given = (LED, tuple(rows((2, 2, 2)))[::7], ZERO, ONE, 1)
        found = passage(*given)
        for value in otherwise(found) + otherwise(tuple(found)):
            self.assertIs(is_passage(*given, value), plain_is_passage(*given, value), value)
        self.judges(is_passage, given, [found, tuple(found)], [found[::-1], found[:-1], found[1:], [ZERO, ONE]])
        # Back and forth, and with more than the fewest changes: still a passage.
        self.judges(is_passage, given, [found + found[::-1] + found], [])
        self.judges(is_passage, (TURNING, ENDS, ZERO, ONE, 2), [], [found, [ZERO, ONE]])
        self.judges(is_passage, (TURNING, ENDS, ZERO, ONE, 3), [[ZERO, ONE]], [])
        # Each step is small and what comes between is not safe.
        between = [ZERO, ((1, 1), (0, 0), (0, 0)), ((1, 1), (1, 1), (0, 0)), ONE]
        self.judges(is_passage, (TURNING, ENDS, ZERO, ONE, 1), [], [between])
        self.judges(is_passage, (TURNING, tuple(rows((2, 2, 2))), ZERO, ONE, 1), [between], [between[:3]])

    def test_fences_and_heights_with_one_thing_otherwise(self):
        fences = tall = 0
        for table, safe, start, goal in some_cases(4):
            here, there = the_story(table, start), the_story(table, goal)
            for most in range(1, len(table.sends) + 1):
                given = (table, safe, start, goal, most)
                border = fence(*given)
                lots = [tuple(sent for sent, taken in zip(safe, row) if taken) for row in rows((2,) * len(safe[:5]))]
                for value in otherwise(border) + lots + [safe]:
                    right = plain_is_fence(table, safe, here, there, most, value)
                    fences += right
                    self.assertIs(is_fence(*given, value), right, value)
                for number in (0, 2):
                    high = heights(*given, number)
                    for value in otherwise(high)[:200]:
                        right = plain_are_heights(table, safe, here, there, most, number, value)
                        tall += right
                        self.assertIs(are_heights(*given, number, value), right, value)
        self.assertGreater(fences, 10)
        self.assertGreater(tall, 20)
        given = (TURNING, ENDS, ZERO, ONE)
        self.judges(is_fence, (*given, 2), [((0, 0, 0),)], [ENDS, ((1, 1, 1),), [(0, 0, 0)], ((0, 0, 0), (0, 0, 1))])
        high = {(1, 1, 1): 5, (0, 0, 0): 0}
        self.judges(are_heights, (*given, 2, 5), [high, {(0, 0, 0): 0, (1, 1, 1): 999999999}],
                    [{(0, 0, 0): 0, (1, 1, 1): 4}, {(0, 0, 0): 1, (1, 1, 1): 5}, {(0, 0, 0): False, (1, 1, 1): 5}])
        self.judges(are_heights, (*given, 3, 2), [], [high, {(0, 0, 0): 0, (1, 1, 1): 2}])
        self.judges(are_heights, (*given, 3, 1), [{(0, 0, 0): 0, (1, 1, 1): 1}], [high, {(0, 0, 0): 0, (1, 1, 1): 0}])


class Wrong(Case):
    def test_wrong_values(self):
        safes = [None, True, 0, list(ENDS), ((0, 0),), ((0, 0, 2),), ((1, 1, 1), (0, 0, 0)), ((0, 0, 0), (0, 0, 0)),
                 (0, 0, 0), (None,), ((0, 0, False), (1, 1, 1)), {(0, 0, 0): 0}, ((0, 0, 0), (1, 1, 1), None),
                 deep_value()]
        good = {"table": TURNING, "safe": ENDS, "start": ZERO, "goal": ONE}
        wrong = {"table": (BadTable, wrong_tables(RING)), "safe": (BadSafe, safes),
                 "start": (BadRules, wrong_rules(TURNING)), "goal": (BadRules, wrong_rules(TURNING))}
        self.refuses(least_most, good, wrong)
        good["most"] = 2
        wrong["most"] = (BadMost, [None, True, False, 0, 4, -1, "1", (1,), 999999999, deep_value()])
        for function in (passage, fence, fewest_changes):
            self.refuses(function, good, wrong)
        for function in (is_passage, is_fence):
            self.refuses(function, {**good, "thing": None}, wrong)
        numbers = {"number": (BadNumber, wrong_numbers(100))}
        self.refuses(heights, {**good, "number": 99}, {**wrong, **numbers})
        self.refuses(are_heights, {**good, "number": 0, "thing": None}, {**wrong, **numbers})

    def test_what_is_not_fine_or_not_safe(self):
        away = ((1, 1), (0, 0), (0, 0))
        for function, more, last in [(least_most, (), ()), (passage, (0,), ()), (fence, (0,), ()),
                                     (fewest_changes, (0,), ()), (is_passage, (0,), (None,)), (is_fence, (0,), (None,)),
                                     (heights, (0, -1), ()), (are_heights, (0, -1), (None,))]:
            self.refused(NotFine, function, ring_table((2, 2, 2)), None, None, None, *more, *last)
            self.refused(NotSafe, function, TURNING, ENDS, away, None, *more, *last)
            self.refused(NotSafe, function, TURNING, ENDS, ZERO, away, *more, *last)
            self.refused(NotSafe, function, TURNING, (), ZERO, ONE, *more, *last)
            self.refused(NotSafe, function, TURNING, ENDS[1:], ZERO, None, *more, *last)
            self.refused(BadRules, function, TURNING, ENDS[:1], ZERO, None, *more, *last)
            self.refused(NotSafe, function, TURNING, ENDS[:1], ZERO, ONE, *more, *last)
            if more:
                self.refused(BadMost, function, TURNING, ENDS, ZERO, ONE, *more, *last)
        self.refused(BadNumber, heights, TURNING, ENDS, ZERO, ONE, 1, -1)
        self.assertEqual(len(spark_four().notes), 16)
