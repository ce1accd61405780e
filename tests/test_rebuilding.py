"""[113] Safe ways by binding and turning: rebuildings and moats."""

import random

from onestory.errors import BadMost, BadRules, BadSafe, BadTable, NotFine, NotSafe, OtherSizes
from onestory.leads import binding_step, passage
from onestory.ones import the_story
from onestory.rebuilding import deaf_rooms, is_moat, is_rebuilding, moat, rebuilding
from onestory.tables import Table, quiet_table, ring_table, turning_table
from tests.samples import (Case, clocked_table, deep_value, every_rules, fine_of, is_exact, otherwise, plain_fine,
                           plain_stories, random_rules, rows, same, some_tables, wandered_table, wrong_rules,
                           wrong_tables)

RING = ring_table((2, 2))
TURNING = turning_table()
QUIET = quiet_table((2, 2), (2, 2))
DEAF = quiet_table((2, 2), (1, 1))
ZERO = ((0, 0),) * 3
ONE = ((1, 1),) * 3
ENDS = ((0, 0, 0), (1, 1, 1))
SIZES = [((2, 2), (1, 1)), ((2, 2), (1, 2)), ((2, 2), (2, 2)), ((2, 2, 2), (1, 1, 1)), ((3, 2), (1, 1)), ((2,), (2,)),
         ((2, 1, 2), (1, 1, 2)), ((2, 2, 2), (1, 1, 2))]


def deaf(table):
    return [k for k, taken in enumerate(table.takes) if taken == 1]


def columns(pair):
    table, rules = pair
    return [(rules[k], tuple(received[k] for received in table.notes)) for k in range(len(rules))]


def unlike(pair, other):
    return sum(one != two for one, two in zip(columns(pair), columns(other)))


def is_rules(table, thing):
    if thing.__class__ is not tuple or len(thing) != len(table.sends):
        return False
    return all(rule.__class__ is tuple and len(rule) == taken and all(is_exact(x, int, 0, sent) for x in rule)
               for rule, taken, sent in zip(thing, table.takes, table.sends))


def plain_is_rebuilding(one, other, safe, start, goal, most, thing):
    if thing.__class__ not in (list, tuple) or len(thing) == 0:
        return False
    for pair in thing:
        if pair.__class__ is not tuple or len(pair) != 2 or not isinstance(pair[0], Table):
            return False
        table, rules = pair
        if (table.sends, table.takes) != (one.sends, one.takes) or not is_rules(one, rules):
            return False
        if not plain_fine(table) or plain_stories(table, rules)[0] not in safe:
            return False
    if thing[0] != (one, start) or thing[-1] != (other, goal):
        return False
    return all(unlike(pair, then) <= most for pair, then in zip(thing, thing[1:]))


def plain_is_moat(table, safe, here, there, most, thing):
    if thing.__class__ is not tuple or not all(any(same(sent, other) for other in safe) for sent in thing):
        return False
    if list(thing) != sorted(set(thing)) or here not in thing or there in thing:
        return False
    return all(sum(sent[k] != other[k] for k in deaf(table)) > most
               for sent in thing for other in safe if other not in thing)


def reached(sends, takes, safe, first, most):
    """The places of all pairs that safe steps lead to from the first one, by a search through all pairs."""
    pairs = [(table, rules) for table in fine_of(sends, takes) for rules in every_rules(table)]
    pairs = [pair for pair in pairs if plain_stories(*pair)[0] in safe]
    told = [columns(pair) for pair in pairs]
    found = [at for at, pair in enumerate(pairs) if pair == first]
    for at in found:
        for to in range(len(pairs)):
            if to not in found and sum(x != y for x, y in zip(told[at], told[to])) <= most:
                found.append(to)
    return [pairs[at] for at in found]


def some_cases(many, seed=1130):
    """Two fine tables of equal sizes, safe sendings and rules with safe stories."""
    draw = random.Random(seed)
    found = []
    for sends, takes in SIZES:
        for _ in range(many):
            one, other = draw.choice(fine_of(sends, takes)), draw.choice(fine_of(sends, takes))
            found.append((one, other) + ends_for(draw, one, other, 2))
    return found


def great_cases(many, seed=1131):
    draw = random.Random(seed)
    found = [(TURNING, TURNING, ENDS, ZERO, ONE)]
    for sends, takes in [((2,) * 4, (1, 2, 1, 2)), ((3, 3, 2), (1, 3, 2)), ((2,) * 5, (1, 1, 3, 1, 1)),
                         ((5, 4), (1, 2)), ((2,) * 5, (1,) * 5), ((2, 2, 2), (2, 2, 2)), ((1,), (1,)), ((16,), (4,)),
                         ((3, 3, 2), (1, 1, 1))]:
        for _ in range(many):
            one, other = [wandered_table(draw, clocked_table(draw, sends, takes), 3) for _ in range(2)]
            found.append((one, other) + ends_for(draw, one, other, 5))
    return found


def ends_for(draw, one, other, share):
    start, goal = random_rules(draw, one), random_rules(draw, other)
    stories = {the_story(one, start), the_story(other, goal)}
    safe = tuple(sorted(stories | {sent for sent in rows(one.sends) if draw.randrange(share) == 0}))
    return safe, start, goal


class Rebuildings(Case):
    def check(self, one, other, safe, start, goal, most):
        """What the functions find, judged one by one; whether it is a rebuilding."""
        given = (one, other, safe, start, goal, most)
        here, there = the_story(one, start), the_story(other, goal)
        found, border = rebuilding(*given), moat(*given)
        self.assertNotEqual(found is None, border is None)
        if found is None:
            self.assertTrue(plain_is_moat(one, safe, here, there, most, border))
            self.assertIs(is_moat(*given, border), True)
        else:
            self.assertIs(found.__class__, list)
            self.assertTrue(plain_is_rebuilding(*given, found))
            self.assertIs(is_rebuilding(*given, found), True)
        return found is not None

    def test_heart_against_a_search_through_all_pairs(self):
        seen = set()
        for one, other, safe, start, goal in some_cases(8):
            for most in range(1, len(one.sends) + 1):
                right = (other, goal) in reached(one.sends, one.takes, safe, (one, start), most)
                seen.add(right)
                self.assertEqual(self.check(one, other, safe, start, goal, most), right)
        self.assertEqual(seen, {True, False})

    def test_greater_tables(self):
        seen = set()
        for one, other, safe, start, goal in great_cases(2):
            for most in range(1, len(one.sends) + 1):
                found = self.check(one, other, safe, start, goal, most)
                seen.add(found)
                stories = tuple(sorted({the_story(one, start), the_story(other, goal)}))
                alone = self.check(one, other, stories, start, goal, most)
                if len(deaf(one)) <= most:
                    self.assertTrue(found and alone)
                # The tables have no effect on it.
                back = wandered_table(random.Random(1132), one, 2)
                first = binding_step(back, the_story(one, start), the_story(one, start))[0]
                self.assertEqual(moat(back, other, safe, first, goal, most), moat(one, other, safe, start, goal, most))
        self.assertEqual(seen, {True, False})

    def test_passages_are_rebuildings(self):
        draw = random.Random(1133)
        for table in [TURNING, QUIET, DEAF] + fine_of((2, 2), (1, 2)):
            for _ in range(4):
                safe, start, goal = ends_for(draw, table, table, 2)
                for most in range(1, len(table.sends) + 1):
                    found = passage(table, safe, start, goal, most)
                    if found is not None:
                        pairs = [(table, rules) for rules in found]
                        self.assertIs(is_rebuilding(table, table, safe, start, goal, most, pairs), True)
                        self.assertIsNotNone(rebuilding(table, table, safe, start, goal, most))

    def test_by_hand(self):
        given = {"one": TURNING, "other": TURNING, "safe": ENDS, "start": ZERO, "goal": ONE, "most": 1}
        self.assertIsNone(passage(TURNING, ENDS, ZERO, ONE, 1))
        found = rebuilding(**given)
        self.assertIs(is_rebuilding(**given, thing=found), True)
        self.assertIsNone(moat(**given))
        # All rooms quiet, rooms 1 and 2 led by room 0 and bound to it, room 0 bound otherwise, and back likewise.
        tables = [TURNING]
        for room, notes in [(0, None), (1, None), (2, None), (1, 0), (2, 0)]:
            last = tables[-1]
            tables.append(Table(last.sends, last.takes, tuple(
                received[:room] + (0 if notes is None else sent[0],) + received[room + 1:]
                for sent, received in zip(rows(last.sends), last.notes))))
        there = [(table, ZERO) for table in tables]
        there += [(tables[-1], ((0, 0), (0, 1), (0, 0))), (tables[-1], ((0, 0), (0, 1), (0, 1)))]
        back = [(table, ONE) for table in tables[::-1]]
        back = [(tables[-1], ((1, 1), (0, 1), (0, 1))), (tables[-1], ((1, 1), (1, 1), (0, 1)))] + back
        self.assertIs(is_rebuilding(**given, thing=there + back), True)
        self.assertIs(is_rebuilding(**given, thing=there + back[1:]), False)
        given = {"one": DEAF, "other": DEAF, "safe": ((0, 0), (1, 1)), "start": ((0,), (0,)), "goal": ((1,), (1,))}
        self.assertIsNone(rebuilding(**given, most=1))
        self.assertEqual(moat(**given, most=1), ((0, 0),))
        self.assertIs(is_moat(**given, most=1, thing=((0, 0),)), True)
        self.assertIs(is_moat(**given, most=2, thing=((0, 0),)), False)
        self.assertIsNone(moat(**given, most=2))
        three = quiet_table((2, 2, 2), (1, 1, 1))
        safe = ((0, 0, 0), (0, 0, 1), (0, 1, 1), (1, 1, 0))
        self.assertEqual(moat(three, three, safe, ((0,), (1,), (1,)), ((1,), (1,), (0,)), 1), safe[:3])
        self.assertEqual(moat(three, three, safe, ((1,), (1,), (0,)), ((0,), (0,), (0,)), 1), safe[3:])

    def test_deaf_rooms(self):
        for table in some_tables(1) + [RING, DEAF, quiet_table((2, 2, 2), (1, 3, 1))]:
            self.assertTrue(same(deaf_rooms(table), tuple(deaf(table))))
        self.assertEqual(deaf_rooms(table=quiet_table((2, 2, 2), (1, 3, 1))), (0, 2))
        self.refuses(deaf_rooms, {"table": RING}, {"table": (BadTable, wrong_tables(RING))})

    def test_nothing_to_do(self):
        for one, _, safe, start, _ in some_cases(1):
            given = (one, one, safe, start, start, 1)
            self.assertTrue(self.check(*given))
            self.judges(is_rebuilding, given, [[(one, start)], ((one, start),), [(one, start)] * 3], [[]])

    def test_rebuildings_with_one_thing_otherwise(self):
        deafened = quiet_table((2, 2), (1, 2))
        heard = Table((2, 2), (1, 2), ((0, 0), (0, 0), (0, 1), (0, 1)))
        cases = [(TURNING, TURNING, ENDS, ZERO, ONE, 1),
                 (deafened, heard, ((0, 0), (1, 1)), ((0,), (0, 1)), ((1,), (0, 1)), 1),
                 (DEAF, DEAF, ((0, 0), (0, 1), (1, 1)), ((0,), (0,)), ((1,), (1,)), 1)]
        for given in cases:
            found = rebuilding(*given)
            for value in (otherwise(found) + otherwise(tuple(found)))[::2]:
                self.assertIs(is_rebuilding(*given, value), plain_is_rebuilding(*given, value), value)
            tables = [RING, quiet_table((2, 2), (2, 2)), quiet_table((2, 2), (1, 3)), quiet_table((2, 1), (1, 2)), DEAF,
                      TURNING, ring_table((2, 2, 2)), deafened, None]
            for at in range(len(found)):
                for table in tables:
                    value = found[:at] + [(table, found[at][1])] + found[at + 1:]
                    self.assertIs(is_rebuilding(*given, value), plain_is_rebuilding(*given, value))
                value = found[:at] + found[at + 1:]
                self.assertIs(is_rebuilding(*given, value), plain_is_rebuilding(*given, value))
            self.judges(is_rebuilding, given, [found, tuple(found), found + found[::-1] + found],
                        [found[::-1], found[1:], found[:-1], [], [given[0]], [given[3]]])

    def test_a_table_between_must_be_fine(self):
        notes = tuple((b, a) for a, b in rows((2, 2)))
        ring = Table((2, 2), (2, 2), notes)
        rules = ((0, 0), (0, 0))
        given = (QUIET, QUIET, ((0, 0),), rules, rules, 2)
        self.judges(is_rebuilding, given, [[(QUIET, rules)] * 3], [[(QUIET, rules), (ring, rules), (QUIET, rules)]])
        # So must its sizes be those of the two tables.
        for between in [(quiet_table((4, 1), (2, 2)), rules), (quiet_table((1, 4), (2, 2)), rules),
                        (quiet_table((2, 2), (2, 3)), ((0, 0), (0, 0, 0)))]:
            self.judges(is_rebuilding, given, [], [[(QUIET, rules), between, (QUIET, rules)]])
        # A room that has another rule and receives another note counts once.
        other = Table((2, 2), (2, 2), ((0, 1),) * 4)
        between = (other, ((0, 0), (0, 1)))
        wide = (QUIET, other, ((0, 0), (0, 1)), rules, between[1], 1)
        self.judges(is_rebuilding, wide, [[(QUIET, rules), between]], [])
        self.judges(is_rebuilding, (QUIET, other, ((0, 0), (0, 1)), rules, ((0, 1), (0, 1)), 1), [],
                    [[(QUIET, rules), (other, ((0, 1), (0, 1)))]])

    def test_moats_with_one_thing_otherwise(self):
        moats = 0
        deafer = quiet_table((2, 2, 2), (1, 1, 1))
        cases = [(deafer, deafer) + ends_for(random.Random(seed), deafer, deafer, 2) for seed in range(12)]
        for one, other, safe, start, goal in some_cases(4) + cases:
            here, there = the_story(one, start), the_story(other, goal)
            for most in range(1, len(one.sends) + 1):
                given = (one, other, safe, start, goal, most)
                lots = [tuple(sent for sent, taken in zip(safe, row) if taken) for row in rows((2,) * len(safe[:5]))]
                for value in otherwise(moat(*given)) + lots + [safe]:
                    right = plain_is_moat(one, safe, here, there, most, value)
                    moats += right
                    self.assertIs(is_moat(*given, value), right, value)
        self.assertGreater(moats, 5)
        given = (DEAF, DEAF, ((0, 0), (1, 1)), ((0,), (0,)), ((1,), (1,)), 1)
        self.judges(is_moat, given, [((0, 0),)],
                    [((1, 1),), ((0, 0), (1, 1)), [(0, 0)], ((0, 0), (0, 1)), ((0, False),)])

    def test_wrong_values(self):
        safes = [None, True, 0, list(ENDS), ((0, 0),), ((0, 0, 2),), ((1, 1, 1), (0, 0, 0)), ((0, 0, 0), (0, 0, 0)),
                 (0, 0, 0), (None,), ((0, 0, False), (1, 1, 1)), {(0, 0, 0): 0}, deep_value()]
        good = {"one": TURNING, "other": quiet_table((2, 2, 2), (2, 2, 2)), "safe": ENDS, "start": ZERO, "goal": ONE,
                "most": 2}
        wrong = {"one": (BadTable, wrong_tables(RING)), "other": (BadTable, wrong_tables(RING)),
                 "safe": (BadSafe, safes),
                 "start": (BadRules, wrong_rules(TURNING)), "goal": (BadRules, wrong_rules(TURNING)),
                 "most": (BadMost, [None, True, False, 0, 4, -1, "1", (1,), 999999999, deep_value()])}
        for function in (rebuilding, moat):
            self.refuses(function, good, wrong)
        for function in (is_rebuilding, is_moat):
            self.refuses(function, {**good, "thing": None}, wrong)

    def test_what_is_not_fine_or_not_alike_or_not_safe(self):
        away = ((1, 1), (0, 0), (0, 0))
        ring = ring_table((2, 2, 2))
        quiet = quiet_table((2, 2, 2), (2, 2, 2))
        for function, more in [(rebuilding, ()), (moat, ()), (is_rebuilding, (None,)), (is_moat, (None,))]:
            # What is wrong with one comes ahead of what is wrong with other.
            for other in wrong_tables(RING) + [ring, RING, TURNING, QUIET]:
                self.refused(NotFine, function, ring, other, None, None, None, None, *more)
                self.refused(BadTable, function, None, other, None, None, None, None, *more)
            for other in wrong_tables(RING):
                self.refused(BadTable, function, TURNING, other, None, None, None, None, *more)
                self.refused(BadTable, function, QUIET, other, None, None, None, None, *more)
            self.refused(NotFine, function, TURNING, ring, None, None, None, None, *more)
            self.refused(NotFine, function, TURNING, RING, None, None, None, None, *more)
            for other in [QUIET, quiet_table((2, 2, 2), (2, 2, 3)), quiet_table((2, 2, 3), (2, 2, 2))]:
                self.refused(OtherSizes, function, TURNING, other, None, None, None, None, *more)
            self.refused(NotSafe, function, TURNING, quiet, ENDS, away, None, None, *more)
            self.refused(NotSafe, function, TURNING, quiet, ENDS, ZERO, away, None, *more)
            self.refused(BadRules, function, TURNING, quiet, (), None, None, None, *more)
            self.refused(NotSafe, function, TURNING, quiet, (), ZERO, None, None, *more)
            self.refused(BadMost, function, TURNING, quiet, ENDS, ZERO, ONE, 0, *more)
        # The story of start is that in the one table, the story of goal that in the other one.
        led = Table((2, 2), (2, 2), ((0, 0), (0, 0), (0, 1), (0, 1)))
        other = Table((2, 2), (2, 2), ((0, 0), (1, 0), (0, 0), (1, 0)))
        rules = ((1, 0), (0, 1))
        self.assertEqual((the_story(led, rules), the_story(other, rules)), ((1, 1), (1, 0)))
        self.assertIsNotNone(rebuilding(led, other, ((1, 0), (1, 1)), rules, rules, 1))
        self.refused(NotSafe, rebuilding, led, other, ((1, 0),), rules, rules, 1)
        self.refused(NotSafe, rebuilding, led, other, ((1, 1),), rules, rules, 1)
        self.assertIsNotNone(rebuilding(led, led, ((1, 1),), rules, rules, 1))
