"""[70] Renamings; [71] tables that are alike."""

import random
from itertools import permutations, product
from math import factorial

from onestory.classes import classes
from onestory.counts import story_counts
from onestory.errors import (BadPaper, BadRenaming, BadRules, BadSending, BadSends, BadTable, BadTakes, OtherSizes,
                             TooMany)
from onestory.fine import is_paper, paper
from onestory.renamings import (alike, first_like, is_renaming, keeping_count, likes, no_renaming, renamed,
                                renamed_paper, renamed_rules, renamed_sending, renamed_sizes, renaming_back,
                                renaming_on, renamings)
from onestory.stories import all_rules
from onestory.tables import Table, quiet_table, ring_table, turning_table
from onestory.turns import fewest_turns
from tests.samples import (OTHER_KINDS, Case, answered, brings, clocked_table, deep_value, every_rules, fine_tables,
                           otherwise, plain_fine, plain_stories, random_rules, random_table, rows, same, some_tables,
                           wandered_table, whole_families, wrong_rules, wrong_sendings, wrong_tables)

RING = ring_table((2, 2))
TURNING = turning_table()
HEARING = Table((2, 2), (2, 2), ((0, 0), (1, 0), (0, 0), (1, 0)))
QUIET = quiet_table((2, 2), (2, 2))
SWAP = ((1, 0), ((1, 0), (0, 2, 1)), ((0, 1), (2, 0, 1)))
SIZES = [((2,), (2,)), ((1,), (1,)), ((3,), (4,)), ((2, 2), (2, 2)), ((2, 3), (2, 2)), ((3, 2), (2, 3)),
         ((2, 2, 2), (2, 2, 2)), ((2, 1, 2), (2, 1, 2)), ((2, 2, 3), (3, 2, 2)), ((1, 1, 1), (2, 2, 1))]


def shuffled(draw, size):
    found = list(range(size))
    draw.shuffle(found)
    return tuple(found)


def random_renaming(draw, sends, takes):
    return (shuffled(draw, len(sends)), tuple(shuffled(draw, size) for size in sends),
            tuple(shuffled(draw, size) for size in takes))


def every_renaming(sends, takes):
    return list(product(permutations(range(len(sends))),
                        product(*[permutations(range(size)) for size in sends]),
                        product(*[permutations(range(size)) for size in takes])))


def plain_sizes(sends, takes, renaming):
    rooms = renaming[0]
    named = {rooms[k]: (sends[k], takes[k]) for k in range(len(rooms))}
    return (tuple(named[k][0] for k in sorted(named)), tuple(named[k][1] for k in sorted(named)))


def plain_renamed_sending(renaming, sending):
    rooms, sent, _ = renaming
    named = {rooms[k]: sent[k][number] for k, number in enumerate(sending)}
    return tuple(named[k] for k in sorted(named))


def plain_renamed(table, renaming):
    rooms, sent, received = renaming
    lines = {}
    for sending, notes in brings(table).items():
        named = {rooms[k]: received[k][note] for k, note in enumerate(notes)}
        lines[plain_renamed_sending(renaming, sending)] = tuple(named[k] for k in sorted(named))
    return Table(*plain_sizes(table.sends, table.takes, renaming), tuple(lines[sent] for sent in sorted(lines)))


def plain_renamed_rules(renaming, rules):
    rooms, sent, received = renaming
    named = {}
    for k, rule in enumerate(rules):
        told = {received[k][note]: sent[k][number] for note, number in enumerate(rule)}
        named[rooms[k]] = tuple(told[note] for note in sorted(told))
    return tuple(named[k] for k in sorted(named))


def keeping(sends, takes):
    return [renaming for renaming in every_renaming(sends, takes)
            if plain_sizes(sends, takes, renaming) == (sends, takes)]


def some_renamings(many, seed=70):
    """Tables, each with a renaming of it."""
    draw = random.Random(seed)
    tables = whole_families()[::9] + some_tables(1)
    return [(table, random_renaming(draw, table.sends, table.takes)) for table in tables for _ in range(many)]


def is_plain_renaming(sends, takes, thing):
    if thing.__class__ is not tuple or len(thing) != 3:
        return False
    rooms, sent, received = thing
    return is_plain_order(rooms, len(sends)) and are_plain_orders(sent, sends) and are_plain_orders(received, takes)


def are_plain_orders(thing, sizes):
    return thing.__class__ is tuple and len(thing) == len(sizes) and all(
        is_plain_order(order, size) for order, size in zip(thing, sizes))


def is_plain_order(thing, size):
    return any(same(thing, order) for order in permutations(range(size)))


def wrong_renamings(renaming, sends, takes):
    return ([value for value in otherwise(renaming) if not is_plain_renaming(sends, takes, value)]
            + [None, True, 0, "", (), [renaming], {}, renaming[:2], renaming + ((),), deep_value()])


WRONG_SENDS = [None, True, 0, (), [2, 3], (2,) * 7, (0, 3), (65,), (2, True), (8, 9), ("2", 3), deep_value()]
WRONG_TAKES = [None, 2, (), [3, 2], (2,), (2, 3, 2), (0, 2), (65, 2), (True, 2), (2, None), deep_value()]


class Renamings(Case):
    def test_is_renaming(self):
        for sends, takes in SIZES:
            every = every_renaming(sends, takes)
            for thing in every[::max(len(every) // 50, 1)]:
                self.assertIs(is_renaming(sends, takes, thing), True)
        wrong = wrong_renamings(SWAP, (2, 3), (2, 3))
        self.judges(is_renaming, ((2, 3), (2, 3)), [SWAP, no_renaming((2, 3), (2, 3))], wrong)
        self.judges(is_renaming, ((1,), (1,)), [((0,), ((0,),), ((0,),))], [((False,), ((0,),), ((0,),)), SWAP])
        self.judges(is_renaming, ((2, 3), (2, 2)), [], [SWAP])
        self.judges(is_renaming, ((3, 2), (2, 3)), [], [SWAP])

    def test_no_renaming_and_sizes(self):
        draw = random.Random(71)
        for sends, takes in SIZES:
            none = no_renaming(sends, takes)
            self.assertTrue(same(none, every_renaming(sends, takes)[0]))
            self.assertEqual(renamed_sizes(sends, takes, none), (sends, takes))
            for _ in range(5):
                renaming = random_renaming(draw, sends, takes)
                self.assertTrue(same(renamed_sizes(sends, takes, renaming), plain_sizes(sends, takes, renaming)))
        self.assertEqual(renamed_sizes(sends=(2, 3), takes=(2, 3), renaming=SWAP), ((3, 2), (3, 2)))
        three = ((1, 2, 0), ((0, 1), (0,), (0, 1, 2)), ((0,), (0,), (0,)))
        self.assertEqual(renamed_sizes((2, 1, 3), (1, 1, 1), three), ((3, 2, 1), (1, 1, 1)))

    def test_back_and_on(self):
        draw = random.Random(72)
        for table, renaming in some_renamings(2):
            sends, takes = table.sends, table.takes
            new_sends, new_takes = plain_sizes(sends, takes, renaming)
            back = renaming_back(sends, takes, renaming)
            self.assertTrue(is_plain_renaming(new_sends, new_takes, back))
            self.assertEqual(plain_renamed(plain_renamed(table, renaming), back), table)
            self.assertTrue(same(renaming_on(sends, takes, renaming, back), no_renaming(sends, takes)))
            self.assertTrue(same(renaming_on(new_sends, new_takes, back, renaming), no_renaming(new_sends, new_takes)))
            then = random_renaming(draw, new_sends, new_takes)
            both = renaming_on(sends, takes, renaming, then)
            self.assertTrue(is_plain_renaming(sends, takes, both))
            for sending in rows(sends):
                self.assertEqual(plain_renamed_sending(then, plain_renamed_sending(renaming, sending)),
                                 plain_renamed_sending(both, sending))
            self.assertEqual(plain_renamed(plain_renamed(table, renaming), then), plain_renamed(table, both))
        self.assertEqual(renaming_back(sends=(2, 3), takes=(2, 3), renaming=SWAP),
                         ((1, 0), ((0, 2, 1), (1, 0)), ((1, 2, 0), (0, 1))))
        then = ((0, 1), ((1, 2, 0), (0, 1)), ((2, 1, 0), (1, 0)))
        self.assertEqual(renaming_on(sends=(2, 3), takes=(2, 3), renaming=SWAP, then=then),
                         ((1, 0), ((1, 0), (1, 0, 2)), ((1, 0), (0, 2, 1))))

    def test_renamed(self):
        for table, renaming in some_renamings(2):
            found = renamed(table, renaming)
            self.assertEqual(found, plain_renamed(table, renaming))
            self.assertTrue(same(found.notes, plain_renamed(table, renaming).notes))
            for sending in rows(table.sends):
                right = plain_renamed_sending(renaming, sending)
                self.assertTrue(same(renamed_sending(table, renaming, sending), right))
        draw = random.Random(73)
        for table, renaming in some_renamings(1)[::3]:
            rules = random_rules(draw, table)
            self.assertTrue(same(renamed_rules(table, renaming, rules), plain_renamed_rules(renaming, rules)))
        names = ((1, 0), ((0, 1), (1, 0)), ((1, 0), (0, 1)))
        self.assertEqual(renamed_rules(table=RING, renaming=names, rules=((0, 1), (0, 0))), ((1, 1), (1, 0)))
        self.assertEqual(renamed_sending(table=RING, renaming=names, sending=(0, 0)), (1, 0))
        self.assertEqual(renamed(table=RING, renaming=names).notes, ((0, 0), (1, 0), (0, 1), (1, 1)))

    def test_stories_are_renamed(self):
        draw = random.Random(74)
        for table, renaming in some_renamings(1):
            for rules in [random_rules(draw, table) for _ in range(4)]:
                named = renamed_rules(table, renaming, rules)
                new = renamed(table, renaming)
                stories = [renamed_sending(table, renaming, sent) for sent in plain_stories(table, rules)]
                self.assertEqual(sorted(stories), plain_stories(new, named))
                for sent in rows(table.sends)[:4]:
                    self.assertEqual(renamed_sending(table, renaming, answered(table, rules, sent)),
                                     answered(new, named, renamed_sending(table, renaming, sent)))

    def test_what_stays(self):
        for table, renaming in some_renamings(1):
            new = renamed(table, renaming)
            self.assertEqual(plain_fine(new), plain_fine(table))
            self.assertEqual(all_rules(new), all_rules(table))
            if all_rules(table) <= 256:
                self.assertEqual(story_counts(new), story_counts(table))
            for room, name in enumerate(renaming[0]):
                self.assertEqual(len(classes(new, name)), len(classes(table, room)))
        draw = random.Random(75)
        for _ in range(10):
            sends, takes = draw.choice([((2, 2, 2), (2, 2, 2)), ((2, 3, 2), (2, 2, 2)), ((3, 3), (2, 2))])
            one, other = [wandered_table(draw, clocked_table(draw, sends, takes), 10) for _ in range(2)]
            renaming = random_renaming(draw, sends, takes)
            self.assertEqual(fewest_turns(renamed(one, renaming), renamed(other, renaming)), fewest_turns(one, other))

    def test_papers_are_renamed(self):
        draw = random.Random(76)
        for table in fine_tables(2):
            renaming = random_renaming(draw, table.sends, table.takes)
            old = paper(table)
            found = renamed_paper(table, renaming, dict(sorted(old.items(), reverse=True)))
            self.assertIs(is_paper(renamed(table, renaming), found), True)
            self.assertEqual(list(found), sorted(found))
            for (one, other), room in old.items():
                pair = sorted([plain_renamed_sending(renaming, one), plain_renamed_sending(renaming, other)])
                self.assertEqual(found[tuple(pair)], renaming[0][room])

    def test_wrong_values(self):
        sizes = {"sends": (BadSends, WRONG_SENDS), "takes": (BadTakes, WRONG_TAKES)}
        good = {"sends": (2, 3), "takes": (2, 3)}
        wrong = wrong_renamings(SWAP, (2, 3), (2, 3))
        then = wrong_renamings(((1, 0), ((0, 1, 2), (0, 1)), ((0, 1, 2), (0, 1))), (3, 2), (3, 2)) + [SWAP]
        self.refuses(no_renaming, good, sizes)
        self.refuses(keeping_count, good, sizes)
        self.refuses(is_renaming, {**good, "thing": SWAP}, sizes)
        for function in (renamed_sizes, renaming_back):
            self.refuses(function, {**good, "renaming": SWAP}, {**sizes, "renaming": (BadRenaming, wrong)})
        self.refuses(renaming_on, {**good, "renaming": SWAP, "then": no_renaming((3, 2), (3, 2))},
                     {**sizes, "renaming": (BadRenaming, wrong), "then": (BadRenaming, then)})
        names = ((1, 0), ((0, 1), (1, 0)), ((1, 0), (0, 1)))
        table = {"table": (BadTable, wrong_tables(RING)),
                 "renaming": (BadRenaming, wrong_renamings(names, (2, 2), (2, 2)))}
        self.refuses(renamed, {"table": RING, "renaming": names}, table)
        self.refuses(renamed_sending, {"table": RING, "renaming": names, "sending": (0, 1)},
                     {**table, "sending": (BadSending, wrong_sendings(RING))})
        self.refuses(renamed_rules, {"table": RING, "renaming": names, "rules": ((0, 1), (1, 1))},
                     {**table, "rules": (BadRules, wrong_rules(RING))})
        right = paper(HEARING)
        papers = [value for value in otherwise(right) if not is_paper(HEARING, value)]
        self.refuses(renamed_paper, {"table": HEARING, "renaming": names, "paper": right},
                     {"table": (BadTable, wrong_tables(RING)), "renaming": table["renaming"],
                      "paper": (BadPaper, papers + [None, [], {}, True, deep_value()])})
        self.refused(BadPaper, renamed_paper, RING, names, right)

    def test_results_are_new(self):
        right = paper(HEARING)
        renamed_paper(HEARING, no_renaming((2, 2), (2, 2)), right).clear()
        self.assertEqual(renamed_paper(HEARING, no_renaming((2, 2), (2, 2)), right), right)
        renamings(QUIET, QUIET).clear()
        likes(QUIET).clear()
        self.assertEqual((len(renamings(QUIET, QUIET)), len(likes(QUIET))), (8, 4))


class Likes(Case):
    def test_keeping_count(self):
        for sends, takes in SIZES + [((2, 2), (3, 3)), ((1, 1), (1, 1))]:
            self.assertEqual(keeping_count(sends, takes), len(keeping(sends, takes)))
        self.assertEqual(keeping_count(sends=(2, 2), takes=(2, 2)), 32)
        self.assertEqual(keeping_count((64,), (64,)), factorial(64) ** 2)
        self.assertEqual(keeping_count((1,) * 6, (64,) * 6), 720 * factorial(64) ** 6)

    def test_all_renamings_from_one_table_to_another(self):
        draw = random.Random(77)
        seen = 0
        for sends, takes in SIZES[:6] + [((2, 1, 2), (2, 1, 2)), ((2, 2, 2), (2, 2, 2))]:
            ways = keeping(sends, takes)
            for _ in range(3):
                one = draw.choice([random_table(draw, sends, takes), clocked_table(draw, sends, takes),
                                   quiet_table(sends, takes)])
                for other in [one, plain_renamed(one, draw.choice(ways)), random_table(draw, sends, takes)]:
                    right = [renaming for renaming in ways if plain_renamed(one, renaming) == other]
                    seen += right == []
                    self.assertTrue(same(renamings(one, other), right))
                    self.assertTrue(same(alike(one, other), right[0] if right else None))
        self.assertGreater(seen, 3)

    def test_heart_likes_times_keepings(self):
        draw = random.Random(78)
        for sends, takes in SIZES + [((2, 2), (3, 3)), ((4,), (5,))]:
            ways = keeping(sends, takes) if len(rows(sends)) < 8 else keeping(sends, takes)[::40]
            tables = [random_table(draw, sends, takes), clocked_table(draw, sends, takes), quiet_table(sends, takes)]
            for table in tables:
                found = likes(table)
                notes = [other.notes for other in found]
                self.assertEqual(notes, sorted(set(notes)))
                made = {plain_renamed(table, renaming).notes for renaming in ways}
                self.assertTrue(made <= set(notes) if len(rows(sends)) >= 8 else made == set(notes))
                self.assertEqual(len(found) * len(renamings(table, table)), keeping_count(sends, takes))
                self.assertEqual(first_like(table), found[0])
                for other in tables:
                    self.assertEqual(alike(table, other) is not None, first_like(table) == first_like(other))
                self.assertEqual(first_like(plain_renamed(table, draw.choice(ways))), found[0])

    def test_by_hand(self):
        self.assertEqual(len(likes(table=HEARING)), 8)
        self.assertEqual(len(renamings(one=HEARING, other=HEARING)), 4)
        self.assertEqual(len(likes(QUIET)), 4)
        self.assertEqual(len(renamings(QUIET, QUIET)), 8)
        self.assertEqual(first_like(table=quiet_table((2, 2), (2, 2))), QUIET)
        self.assertEqual(alike(one=HEARING, other=HEARING), no_renaming((2, 2), (2, 2)))
        self.assertIsNone(alike(QUIET, HEARING))
        self.assertEqual(renamings(QUIET, HEARING), [])
        self.assertIn(((0, 1), ((0, 1), (1, 0)), ((1, 0), (0, 1))), renamings(HEARING, HEARING))
        self.assertIsNotNone(alike(TURNING, plain_renamed(TURNING, ((2, 0, 1), ((0, 1),) * 3, ((0, 1),) * 3))))
        self.assertEqual(len(every_rules(QUIET)), 16)

    def test_too_many(self):
        just = [ring_table((2,) * 4), quiet_table((7,), (1,)), quiet_table((1,), (7,)), quiet_table((6,), (3,))]
        for table in just:
            self.assertTrue(keeping_count(table.sends, table.takes) <= 20000)
            self.assertEqual(len(likes(table)) * len(renamings(table, table)), keeping_count(table.sends, table.takes))
        for table in [ring_table((2,) * 5), quiet_table((8,), (1,)), quiet_table((1,), (8,)), quiet_table((64,), (64,)),
                      quiet_table((5, 1), (5, 2)), quiet_table((2,) * 6, (64,) * 6)]:
            self.assertGreater(keeping_count(table.sends, table.takes), 20000)
            for function, given in [(renamings, (table, table)), (alike, (table, table)), (likes, (table,)),
                                    (first_like, (table,))]:
                self.assertEqual(self.refused(TooMany, function, *given).most, 20000)

    def test_wrong_values(self):
        for function in (renamings, alike):
            self.refuses(function, {"one": RING, "other": QUIET},
                         {"one": (BadTable, wrong_tables(RING)), "other": (BadTable, wrong_tables(RING))})
            for one, other in [(RING, TURNING), (quiet_table((2, 2), (2, 3)), QUIET),
                               (QUIET, quiet_table((2, 2), (2, 3))),
                               (quiet_table((2, 3), (1, 1)), quiet_table((3, 2), (1, 1))),
                               (ring_table((2,) * 5), ring_table((2,) * 6)), (ring_table((2,) * 6), RING)]:
                self.refused(OtherSizes, function, one, other)
            self.refused(BadTable, function, ring_table((2,) * 6), None)
        for function in (likes, first_like):
            self.refuses(function, {"table": RING}, {"table": (BadTable, wrong_tables(RING))})
        self.assertIn(None, OTHER_KINDS)
