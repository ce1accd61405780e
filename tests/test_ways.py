"""[51] Fits and dooms of sketches."""

import random

from onestory.errors import BadMost, BadRules, BadSketch, NoFit, TooMany
from onestory.sketches import Sketch, dead_pair, guessed, open_cells, put, sketch_of
from onestory.tables import Table, quiet_table, ring_table, turning_table
from onestory.ways import crux, doom, fits, is_crux, is_doom, some_fit, story_fits, sure
from tests.samples import (OTHER_KINDS, Case, agree, at_cell, blank_sketch, deep_value, every_cell, fine_of, otherwise,
                           partly_known, plain_fine, plain_fits, plain_stories, random_rules, random_sketch, rows, same,
                           some_tables, spark_four, wrong_numbers, wrong_rules, wrong_sketches)
from tests.test_sketches import HALF, TALL, plain_dead, plain_guess, with_put

A = ((1, 1), 0)
B = ((1, 1), 1)
DOOM = {(): (2, ("cell", A)), ((A, 0),): (0, ("pair", (0, 1), (1, 1))), ((A, 1),): (1, ("cell", B)),
        ((A, 1), (B, 0)): (0, ("pair", (1, 0), (1, 1))), ((A, 1), (B, 1)): (0, ("pair", (0, 0), (1, 1)))}
SIZES = [((2,), (2,)), ((3,), (3,)), ((1,), (3,)), ((2, 2), (2, 2)), ((2, 2), (2, 3)), ((2, 3), (2, 2)),
         ((3, 2), (2, 1)), ((2, 2, 1), (2, 1, 2)), ((1, 1), (2, 3)), ((2, 1, 2), (2, 2, 2))]


def plain_doom(sketch, thing, ends=()):
    """Whether any value is a doom; a guess and a reason among the ends are right, too."""
    if thing.__class__ is not dict or not any(same(key, ()) for key in thing):
        return False
    if not all(plain_guess(sketch, key) and is_rank(step) for key, step in thing.items()):
        return False
    return all(plain_step(sketch, thing, key, thing[key], ends) for key in thing)


def plain_step(sketch, thing, key, step, ends):
    rank, reason = step
    if reason.__class__ is not tuple or not reason or reason[0].__class__ is not str:
        return False
    if (key, reason) in ends:
        return True
    if reason[0] == "pair":
        return any(same(reason, ("pair",) + pair) for pair in plain_dead(guessed(sketch, key)))
    if reason[0] != "cell" or not any(same(reason, ("cell", cell)) for cell in open_cells(guessed(sketch, key))):
        return False
    return all(any(thing[part][0] < rank and set(part) <= set(key) | {(reason[1], note)} for part in thing)
               for note in range(sketch.takes[reason[1][1]]))


def is_rank(step):
    return step.__class__ is tuple and len(step) == 2 and step[0].__class__ is int and step[0] >= 0


def small_sketches(many, seed=51):
    """Sketches of small sizes, with a fit and without."""
    draw = random.Random(seed)
    found = [HALF, TALL]
    for sends, takes in SIZES:
        for share in (20, 40, 60, 80, 100):
            found += [random_sketch(draw, sends, takes, share) for _ in range(many)]
            found += [partly_known(draw, draw.choice(fine_of(sends, takes)), share) for _ in range(max(many // 3, 1))]
    return found


def great_sketches(many, seed=52):
    """Sketches of greater tables, fine ones and others."""
    draw = random.Random(seed)
    tables = some_tables(1) + [ring_table((2,) * 6), ring_table((4, 4, 4)), ring_table((8, 8)), ring_table((64,))]
    return [partly_known(draw, table, share) for table in tables for share in (15, 40, 70, 100) for _ in range(many)]


def known(sketch):
    return [cell for cell in every_cell(sketch) if at_cell(sketch, cell) is not None]


class Fits(Case):
    def test_heart_a_fit_or_a_doom(self):
        seen = {True: 0, False: 0}
        for sketch in small_sketches(6):
            right = plain_fits(sketch)
            found, reason = some_fit(sketch), doom(sketch)
            seen[right != []] += 1
            self.assertEqual(found is None, right == [])
            self.assertEqual(reason is None, right != [])
            if found is not None:
                self.assertIn(found, right)
            else:
                self.assertIs(is_doom(sketch, reason), True)
                self.assertIs(plain_doom(sketch, reason), True)
                self.assertEqual(list(reason), sorted(reason))
        self.assertTrue(min(seen.values()) > 100)

    def test_heart_of_greater_sketches(self):
        seen = {True: 0, False: 0}
        for sketch in great_sketches(2):
            found, reason = some_fit(sketch), doom(sketch)
            seen[found is None] += 1
            self.assertEqual(found is None, reason is not None)
            if found is not None:
                self.assertTrue(plain_fine(found) and agree(sketch, found))
            else:
                self.assertIs(is_doom(sketch, reason), True)
                self.assertEqual(list(reason), sorted(reason))
        self.assertTrue(min(seen.values()) > 10)

    def test_a_fit_if_no_room_has_two_unlike_known_notes(self):
        draw = random.Random(53)
        for sends, takes in [((2, 2, 2), (3, 2, 2)), ((2,) * 6, (2,) * 6), ((8, 8), (64, 64)), ((64,), (64,))]:
            notes = tuple(tuple(takes[k] - 1 if draw.random() < 0.5 else None for k in range(len(sends)))
                          for _ in rows(sends))
            sketch = Sketch(sends, takes, notes)
            self.assertTrue(plain_fine(some_fit(sketch)) and agree(sketch, some_fit(sketch)))
            self.assertIsNone(doom(sketch))
            blank = some_fit(blank_sketch(sends, takes))
            self.assertTrue(plain_fine(blank) and (blank.sends, blank.takes) == (sends, takes))

    def test_all_fits(self):
        for sketch in small_sketches(4, 54):
            right = plain_fits(sketch)
            self.assertEqual(fits(sketch, 20000), right)
            if right:
                self.assertEqual(fits(sketch, len(right)), right)
                if len(right) > 1:
                    self.assertEqual(self.refused(TooMany, fits, sketch, len(right) - 1).most, len(right) - 1)
            else:
                self.assertEqual(fits(sketch, 1), [])

    def test_all_fits_by_hand(self):
        # 744 fine tables of three rooms that send and receive two numbers.
        blank = blank_sketch((2, 2, 2), (2, 2, 2))
        found = fits(sketch=blank, most=744)
        self.assertEqual(len(found), 744)
        notes = [table.notes for table in found]
        self.assertEqual(notes, sorted(set(notes)))
        self.assertTrue(all(plain_fine(table) for table in found))
        self.assertEqual(self.refused(TooMany, fits, blank, 743).most, 743)
        self.assertEqual(self.refused(TooMany, fits, blank_sketch((2,) * 4, (2,) * 4), 20000).most, 20000)
        self.assertEqual(self.refused(TooMany, fits, blank_sketch((2,) * 6, (64,) * 6), 1).most, 1)
        self.assertEqual(len(fits(blank_sketch((1,), (64,)), 64)), 64)
        self.assertEqual(self.refused(TooMany, fits, blank_sketch((1,), (64,)), 63).most, 63)
        self.assertEqual(fits(HALF, 1), [])
        turning = turning_table()
        self.assertEqual(fits(sketch_of(turning, tuple(every_cell(turning))), 1), [turning])
        fits(HALF, 3).append(1)
        self.assertEqual(fits(HALF, 3), [])

    def test_by_hand(self):
        self.assertIs(is_doom(sketch=HALF, thing=DOOM), True)
        self.assertIsNone(some_fit(sketch=HALF))
        self.assertIs(is_doom(HALF, doom(sketch=HALF)), True)
        self.assertEqual(crux(sketch=HALF), HALF)
        dead = Sketch((2,), (2,), ((0,), (1,)))
        self.assertEqual(doom(dead), {(): (0, ("pair", (0,), (1,)))})
        self.assertEqual(some_fit(TALL), Table((2,), (3,), ((2,), (2,))))
        self.assertEqual(sure(TALL).notes, ((2,), (2,)))

    def test_the_fits_with_each_note_put_all_together(self):
        for sketch in small_sketches(2, 55):
            for cell in open_cells(sketch)[:2]:
                parts = [fits(put(sketch, cell, note), 20000) for note in range(sketch.takes[cell[1]])]
                together = sorted([table.notes for part in parts for table in part])
                self.assertEqual(together, [table.notes for table in fits(sketch, 20000)])

    def test_wrong_values(self):
        for function in (some_fit, doom, sure, crux):
            self.refuses(function, {"sketch": TALL}, {"sketch": (BadSketch, wrong_sketches(TALL))})
        for function in (is_doom, is_crux):
            self.refuses(function, {"sketch": HALF, "thing": {}}, {"sketch": (BadSketch, wrong_sketches(HALF))})
        wrong = [value for value in wrong_numbers(20001)] + [0, 20001]
        self.refuses(fits, {"sketch": blank_sketch((2, 2), (2, 2)), "most": 12},
                     {"sketch": (BadSketch, wrong_sketches(HALF)), "most": (BadMost, wrong)})
        self.refuses(story_fits, {"sketch": HALF, "rules": ((0, 1), (0, 1))},
                     {"sketch": (BadSketch, wrong_sketches(HALF)),
                      "rules": (BadRules, wrong_rules(ring_table((2, 2))))})


class Dooms(Case):
    def test_one_thing_otherwise_at_any_place(self):
        judged = {True: 0, False: 0}
        dooms = [(HALF, DOOM)] + [(sketch, doom(sketch)) for sketch in small_sketches(1, 56)]
        for sketch, found in dooms:
            if found is None or len(found) > 8:
                continue
            for value in otherwise(found):
                right = plain_doom(sketch, value)
                judged[right] += 1
                self.assertIs(is_doom(sketch, value), right, value)
        self.assertTrue(min(judged.values()) > 100, judged)

    def test_ranks(self):
        for ranks, right in [((2, 0, 1, 0, 0), True), ((999999999, 3, 7, 6, 5), True), ((1, 0, 1, 0, 0), False),
                             ((2, 2, 1, 0, 0), False), ((2, 0, 1, 1, 0), False), ((0, 0, 0, 0, 0), False),
                             ((5, 4, 4, 3, 3), True), ((2, 0, 1, 0, -1), False), ((2, 0, True, 0, 0), False),
                             ((2, 0, 1, False, 0), False), ((2, None, 1, 0, 0), False)]:
            value = {key: (rank, DOOM[key][1]) for key, rank in zip(DOOM, ranks)}
            self.assertIs(is_doom(HALF, value), right)
            self.assertIs(is_doom(HALF, {key: value[key] for key in sorted(value, reverse=True)}), right)

    def test_a_lesser_part_will_do(self):
        quiet = Sketch((2, 2), (2, 2), ((0, 0), (1, None), (None, 1), (None, None)))
        more = {**DOOM, ((((0, 1), 1), 0), (A, 0)): (0, ("pair", (0, 1), (1, 1)))}
        self.assertIs(is_doom(quiet, more), True)
        less = {key: step for key, step in more.items() if key != ((A, 0),)}
        self.assertIs(is_doom(quiet, less), False)
        # A key that is not needed must be right all the same.
        self.assertIs(is_doom(quiet, {**DOOM, ((((0, 1), 1), 0),): (3, ("cell", A))}), True)
        self.assertIs(is_doom(quiet, {**DOOM, ((((0, 1), 1), 0),): (0, ("cell", A))}), False)
        self.assertIs(is_doom(quiet, {**DOOM, ((((0, 1), 1), 0),): (1, ("cell", A))}), False)
        self.assertIs(is_doom(quiet, {**DOOM, ((A, 0), (B, 0)): (9, ("cell", ((0, 1), 1)))}), True)
        self.assertIs(is_doom(quiet, {**DOOM, ((A, 0), (B, 0)): (9, ("cell", A))}), False)
        # Nor may the cell be known in the sketch, though a lesser key is a part of this one.
        self.assertIs(is_doom(quiet, {**DOOM, ((A, 0), (B, 0)): (9, ("cell", ((0, 0), 1)))}), False)

    def test_judged(self):
        wrong = [{}, {(): (0, ("cell", A))}, {(): DOOM[()]}, list(DOOM.items()), {((A, 0),): DOOM[(A, 0),]},
                 {**DOOM, (): (2, ("far",))}, {**DOOM, (): (2, ("own",))}, {**DOOM, (): [2, ("cell", A)]},
                 {**DOOM, (): (2, ["cell", A])}, {**DOOM, (): (2, ("cell",))}, {**DOOM, (): (2, ())},
                 {**DOOM, (): (2, "cell")}, {**DOOM, (): 2}, {**DOOM, 0: (0, ("pair", (0, 0), (1, 1)))},
                 {**DOOM, ((A, True),): (0, ("pair", (0, 1), (1, 1)))}, {**DOOM, (): (2, ("cell", ((1, 1), False)))}]
        self.judges(is_doom, (HALF,), [DOOM], wrong)
        self.judges(is_doom, (TALL,), [], [DOOM, {(): (0, ("pair", (0,), (1,)))}])


class Sure(Case):
    def test_what_all_fits_have(self):
        seen = 0
        for sketch in small_sketches(4, 57):
            right = plain_fits(sketch)
            if not right:
                self.refused(NoFit, sure, sketch)
                continue
            seen += 1
            found = sure(sketch)
            self.assertEqual((found.sends, found.takes), (sketch.sends, sketch.takes))
            for cell in every_cell(sketch):
                notes = {at_cell(table, cell) for table in right}
                self.assertTrue(same(at_cell(found, cell), notes.pop() if len(notes) == 1 else None))
            for cell in open_cells(sketch)[:2]:
                dooms = [doom(put(sketch, cell, note)) for note in range(sketch.takes[cell[1]])]
                self.assertEqual(at_cell(found, cell) is not None, len([1 for each in dooms if each is None]) == 1)
        self.assertGreater(seen, 100)
        self.refused(NoFit, sure, sketch=HALF)

    def test_of_greater_sketches(self):
        for sketch in great_sketches(1, 58)[:20]:
            if some_fit(sketch) is None:
                self.refused(NoFit, sure, sketch)
            else:
                found = sure(sketch)
                for cell in open_cells(sketch)[:5]:
                    ways = [some_fit(put(sketch, cell, note)) for note in range(sketch.takes[cell[1]])]
                    right = [note for note, way in enumerate(ways) if way is not None]
                    self.assertEqual(at_cell(found, cell), right[0] if len(right) == 1 else None)


def plain_crux(sketch):
    left = sketch
    for cell in known(sketch):
        less = with_put(left, cell, None)
        if not plain_fits(less):
            left = less
    return left


def is_plain_crux(sketch, thing):
    if not isinstance(thing, Sketch) or (thing.sends, thing.takes) != (sketch.sends, sketch.takes) or plain_fits(thing):
        return False
    return all(at_cell(thing, cell) == at_cell(sketch, cell) and plain_fits(with_put(thing, cell, None))
               for cell in known(thing))


class Cruxes(Case):
    def test_cruxes(self):
        seen = 0
        for sketch in small_sketches(5, 59):
            found = crux(sketch)
            if plain_fits(sketch):
                self.assertIsNone(found)
                continue
            seen += 1
            self.assertEqual(found, plain_crux(sketch))
            self.assertIs(is_crux(sketch, found), True)
            for cell in known(sketch):
                less = with_put(found, cell, None)
                self.assertIs(is_crux(sketch, less), is_plain_crux(sketch, less))
                more = with_put(found, cell, at_cell(sketch, cell))
                self.assertIs(is_crux(sketch, more), is_plain_crux(sketch, more))
                other = with_put(sketch, cell, (at_cell(sketch, cell) + 1) % sketch.takes[cell[1]])
                self.assertIs(is_crux(other, found), is_plain_crux(other, found))
        self.assertGreater(seen, 100)

    def test_of_greater_sketches(self):
        seen = 0
        for sketch in great_sketches(1, 60):
            found = crux(sketch)
            self.assertEqual(found is None, some_fit(sketch) is not None)
            if found is not None:
                seen += 1
                self.assertIs(is_crux(sketch, found), True)
        self.assertGreater(seen, 10)

    def test_judged(self):
        wrong = [with_put(HALF, ((0, 1), 0), None), with_put(HALF, ((1, 1), 0), 0), with_put(HALF, ((0, 1), 0), 0),
                 Sketch((2, 2), (2, 3), HALF.notes), Sketch((4,), (2,), ((0,), (1,), (None,), (None,))),
                 ring_table((2, 2)), blank_sketch((2, 2), (2, 2))]
        self.judges(is_crux, (HALF,), [HALF], wrong)
        self.judges(is_crux, (with_put(HALF, ((1, 1), 1), 1),), [HALF, crux(with_put(HALF, ((1, 1), 1), 1))],
                    [with_put(HALF, ((1, 1), 1), 1)])
        # The same notes, but other sends.
        none = None
        tall = Sketch((4, 1), (2, 2), ((0, none), (1, none), (none, none), (none, none)))
        flat = Sketch((2, 2), (2, 2), ((0, none), (none, none), (1, none), (none, none)))
        self.assertEqual(crux(tall), tall)
        self.judges(is_crux, (flat,), [flat], [tall])
        self.judges(is_crux, (TALL,), [], [TALL, blank_sketch((2,), (3,))] + OTHER_KINDS + [deep_value()])


class StoryFits(Case):
    def test_small_sketches(self):
        draw = random.Random(61)
        seen = 0
        for sketch in small_sketches(4, 62):
            right = plain_fits(sketch)
            rules = random_rules(draw, sketch)
            found = story_fits(sketch, rules)
            wanted = {story for table in right for story in plain_stories(table, rules)}
            self.assertTrue(same(list(found), sorted(wanted)))
            for story, table in found.items():
                self.assertIn(table, right)
                self.assertEqual(plain_stories(table, rules), [story])
            seen += len(found) > 1
        self.assertGreater(seen, 20)

    def test_greater_sketches(self):
        draw = random.Random(63)
        for table in [turning_table(), spark_four(), quiet_table((4, 4, 4), (2, 2, 2))]:
            for share in (20, 60, 100):
                sketch = partly_known(draw, table, share)
                rules = random_rules(draw, table)
                found = story_fits(sketch, rules)
                self.assertIn(plain_stories(table, rules)[0], found)
                for story, fit in found.items():
                    self.assertTrue(plain_fine(fit) and agree(sketch, fit))
                    self.assertEqual(plain_stories(fit, rules), [story])
        self.assertEqual(len(story_fits(quiet_sketch(), ((0, 1), (0, 1)))), 1)

    def test_by_hand(self):
        blank = blank_sketch((2, 2), (2, 2))
        self.assertEqual(list(story_fits(sketch=blank, rules=((0, 1), (0, 1)))), rows((2, 2)))
        self.assertEqual(list(story_fits(blank, ((0, 0), (0, 1)))), [(0, 0), (0, 1)])
        self.assertEqual(list(story_fits(blank, ((1, 1), (0, 0)))), [(1, 0)])
        self.assertEqual(story_fits(HALF, ((0, 1), (0, 1))), {})
        self.assertIsNone(dead_pair(HALF))


def quiet_sketch():
    quiet = quiet_table((2, 2), (2, 2))
    return sketch_of(quiet, tuple(every_cell(quiet)))
