"""[52] Screens and dooms with a short memory."""

import random

from onestory.errors import BadKept, BadSketch, TooMany
from onestory.screens import doom_within, is_doom_within, is_screen, least_kept, screen
from onestory.sketches import Sketch, dead_pair, guessed, open_cells
from onestory.tables import ring_table, turning_table
from onestory.ways import is_doom, some_fit
from tests.samples import (OTHER_KINDS, Case, at_cell, blank_sketch, deep_value, every_cell, otherwise, partly_known,
                           plain_fits, random_sketch, same, spark_four, wrong_numbers, wrong_sketches)
from tests.test_sketches import HALF, TALL, every_guess, plain_guess
from tests.test_ways import DOOM, A, B, plain_doom, small_sketches


def plain_screen(sketch, kept):
    """The greatest screen: what is left when all is sifted again and again."""
    left = {guess for guess in every_guess(sketch, kept) if dead_pair(guessed(sketch, guess)) is None}
    while True:
        more = {guess for guess in left if goes_on(sketch, kept, left, guess)}
        if more == left:
            return tuple(sorted(left)) if left else None
        left = more


def goes_on(sketch, kept, left, guess):
    if any(guess[:at] + guess[at + 1:] not in left for at in range(len(guess))):
        return False
    if len(guess) == kept:
        return True
    return all(any(tuple(sorted(guess + ((cell, note),))) in left for note in range(sketch.takes[cell[1]]))
               for cell in open_cells(guessed(sketch, guess)))


def is_plain_screen(sketch, kept, thing):
    if thing.__class__ is not tuple or () not in thing:
        return False
    if not all(plain_guess(sketch, guess) and len(guess) <= kept for guess in thing):
        return False
    if list(thing) != sorted(set(thing)):
        return False
    return all(dead_pair(guessed(sketch, guess)) is None and goes_on(sketch, kept, thing, guess) for guess in thing)


def is_plain_doom_within(sketch, kept, thing):
    return plain_doom(sketch, thing) and all(
        len(key) < kept or len(key) == kept and reason[0] == "pair" for key, (_, reason) in thing.items())


def few_open(many, seed):
    """Small sketches with few unknown cells, and with fewer."""
    return [sketch for sketch in small_sketches(many, seed) if len(open_cells(sketch)) < 6]


def long_memory():
    """Sketches without a fit, a doom of which takes more memory than one cell."""
    draw = random.Random(70)
    found = [HALF]
    while len(found) < 8:
        sketch = random_sketch(draw, (2, 2, 2), (2, 2, 2), 60)
        if some_fit(sketch) is None and doom_within(sketch, 1) is None:
            found.append(sketch)
    return found


class Screens(Case):
    def test_heart_a_screen_or_a_doom_within(self):
        seen = {True: 0, False: 0}
        for sketch in few_open(4, 71) + long_memory()[:3]:
            for kept in (1, 2, 3, 99):
                if len(open_cells(sketch)) > 5 and kept > 2:
                    continue
                found, reason = screen(sketch, kept), doom_within(sketch, kept)
                seen[found is None] += 1
                self.assertTrue(same(found, plain_screen(sketch, kept)))
                self.assertEqual(found is None, reason is not None)
                if found is not None:
                    self.assertIs(is_screen(sketch, kept, found), True)
                else:
                    self.assertIs(is_doom_within(sketch, kept, reason), True)
                    self.assertIs(is_plain_doom_within(sketch, kept, reason), True)
                    self.assertIs(is_doom(sketch, reason), True)
                    self.assertEqual(list(reason), sorted(reason))
        self.assertTrue(min(seen.values()) > 50, seen)

    def test_a_fit_leaves_a_screen_within_each_kept(self):
        for sketch in few_open(3, 72):
            right = plain_fits(sketch)
            for kept in (1, 2, 99):
                for fit in right[:2]:
                    own = tuple(guess for guess in sorted(every_guess(sketch, kept))
                                if all(at_cell(fit, cell) == note for cell, note in guess))
                    self.assertIs(is_screen(sketch, kept, own), True)
                    self.assertTrue(set(own) <= set(screen(sketch, kept)))
            for kept in range(max(len(open_cells(sketch)), 1), 7):
                self.assertEqual(screen(sketch, kept) is not None, right != [])

    def test_a_screen_within_more_makes_one_within_less(self):
        for sketch in few_open(2, 73):
            for kept in (1, 2):
                more = screen(sketch, kept + 1)
                if more is not None:
                    less = tuple(guess for guess in more if len(guess) <= kept)
                    self.assertIs(is_screen(sketch, kept, less), True)

    def test_by_hand(self):
        self.assertEqual(least_kept(sketch=HALF), 2)
        self.assertIs(is_doom_within(sketch=HALF, kept=2, thing=DOOM), True)
        self.assertIs(is_doom_within(HALF, 1, DOOM), False)
        self.assertIs(is_doom_within(HALF, 3, DOOM), True)
        self.assertIsNone(doom_within(sketch=HALF, kept=1))
        self.assertIs(is_screen(sketch=HALF, kept=1, thing=screen(sketch=HALF, kept=1)), True)
        self.assertIsNone(screen(HALF, 2))
        self.assertEqual(screen(TALL, 1), ((), ((((1,), 0), 2),)))
        self.assertEqual(screen(TALL, 99), ((), ((((1,), 0), 2),)))
        whole = Sketch((1,), (2,), ((1,),))
        self.assertEqual(screen(whole, 1), ((),))
        self.assertEqual(doom_within(Sketch((2,), (2,), ((0,), (1,))), 1), {(): (0, ("pair", (0,), (1,)))})
        self.assertEqual(len(screen(blank_sketch((2, 2, 2), (2, 2, 2)), 1)), 49)

    def test_least_kept(self):
        seen = {}
        for sketch in few_open(4, 74) + long_memory():
            found = least_kept(sketch)
            seen[found] = seen.get(found, 0) + 1
            if some_fit(sketch) is not None:
                self.assertIsNone(found)
            else:
                self.assertTrue(same(found, int(found)))
                self.assertIsNotNone(doom_within(sketch, found))
                self.assertTrue(found == 1 or doom_within(sketch, found - 1) is None)
        self.assertTrue(seen[None] > 20 and seen[1] > 20 and seen[2] > 3, seen)

    def test_too_many(self):
        blank = blank_sketch((2, 2, 2), (2, 2, 2))
        # 1 + 48 + 1104 + 16192 guesses of at most three pairs, 170016 more of four.
        self.assertEqual(screen(blank, 2), plain_screen(blank, 2))
        self.assertIsNotNone(screen(blank, 3))
        for sketch, kept in [(blank, 4), (blank, 99), (blank_sketch((8, 8), (64, 64)), 3),
                             (blank_sketch((2,) * 6, (64,) * 6), 1), (blank_sketch((2,) * 6, (2,) * 6), 2)]:
            for function in (screen, doom_within):
                self.assertEqual(self.refused(TooMany, function, sketch, kept).most, 20000)
            for function in (is_screen, is_doom_within):
                self.assertEqual(self.refused(TooMany, function, sketch, kept, None).most, 20000)
        self.assertIsNotNone(screen(blank_sketch((2,) * 6, (52,) * 6), 1))
        self.refused(TooMany, screen, blank_sketch((2,) * 6, (53,) * 6), 1)

    def test_just_as_many(self):
        # 99 unknown cells: 1 + 99 * 2 + 4851 * 4 guesses of at most two pairs are 19603; one cell more is too many.
        sketch = Sketch((2,) * 6, (2,) * 6, ((None,) * 6,) * 16 + ((None, None, None, 0, 0, 0),) + ((0,) * 6,) * 47)
        self.assertEqual(len(open_cells(sketch)), 99)
        self.assertIsNotNone(screen(sketch, 2))
        more = Sketch((2,) * 6, (2,) * 6, ((None,) * 6,) * 16 + ((None,) * 5 + (0,),) + ((0,) * 6,) * 47)
        self.refused(TooMany, screen, more, 2)
        # 1 + 280 * 64 + 33 * 63 is 20000, and 1 + 281 * 64 + 32 * 63 one more.
        self.assertIsNotNone(screen(wide_sketch(280, 33), 1))
        self.refused(TooMany, screen, wide_sketch(281, 32), 1)

    def test_least_kept_with_too_many(self):
        # Rooms 0 and 1 answer each other where nothing else is sent; it takes some memory to see it.
        ring = ring_table((2,) * 6)
        draw = random.Random(75)
        found = {}
        for share in (25, 40, 60, 80):
            for _ in range(6):
                sketch = partly_known(draw, ring, share)
                if some_fit(sketch) is not None:
                    self.assertIsNone(least_kept(sketch))
                    continue
                try:
                    kept = least_kept(sketch)
                    self.assertIsNotNone(doom_within(sketch, kept))
                except TooMany as wrong:
                    self.assertEqual(wrong.most, 20000)
                    kept = "too many"
                found[kept] = found.get(kept, 0) + 1
        self.assertTrue("too many" in found and 1 in found, found)
        # A dead pair to begin with, but too many guesses of one pair.
        wide = [(None,) * 6] * 64
        wide[:2] = [(None,) * 5 + (0,), (None,) * 5 + (1,)]
        self.assertEqual(self.refused(TooMany, least_kept, Sketch((2,) * 6, (64,) * 6, tuple(wide))).most, 20000)

    def test_wrong_values(self):
        wrong = [value for value in wrong_numbers(100)] + [0, 100]
        for function in (screen, doom_within):
            self.refuses(function, {"sketch": HALF, "kept": 1},
                         {"sketch": (BadSketch, wrong_sketches(HALF)), "kept": (BadKept, wrong)})
        for function in (is_screen, is_doom_within):
            self.refuses(function, {"sketch": HALF, "kept": 1, "thing": None},
                         {"sketch": (BadSketch, wrong_sketches(HALF)), "kept": (BadKept, wrong)})
            # What is wrong comes ahead of what is too many.
            self.refused(BadKept, function, blank_sketch((2,) * 6, (64,) * 6), 0, None)
        self.refuses(least_kept, {"sketch": HALF}, {"sketch": (BadSketch, wrong_sketches(HALF))})


def wide_sketch(many, more):
    """So many unknown cells of rooms that can receive 64 notes, and so many of a room that can receive 63."""
    notes = [tuple(None if at * 5 + room < many else 0 for room in range(5)) + (None if at < more else 0,)
             for at in range(64)]
    return Sketch((2,) * 6, (64,) * 5 + (63,), tuple(notes))


class Judged(Case):
    def test_screens_with_one_thing_otherwise(self):
        judged = {True: 0, False: 0}
        for sketch in few_open(1, 76) + [HALF, TALL]:
            for kept in (1, 2):
                found = screen(sketch, kept)
                if found is None or len(found) > 9:
                    continue
                for value in otherwise(found):
                    right = is_plain_screen(sketch, kept, value)
                    judged[right] += 1
                    self.assertIs(is_screen(sketch, kept, value), right, value)
        self.assertTrue(judged[False] > 500 and judged[True] > 5, judged)

    def test_screens_of_fewer_guesses(self):
        judged = {True: 0, False: 0}
        draw = random.Random(77)
        for sketch in few_open(2, 78):
            for kept in (1, 2, 3):
                found = screen(sketch, kept) or ((),)
                for _ in range(6):
                    less = tuple(guess for guess in found if draw.random() < 0.8)
                    right = is_plain_screen(sketch, kept, less)
                    judged[right] += 1
                    self.assertIs(is_screen(sketch, kept, less), right)
        self.assertTrue(min(judged.values()) > 30, judged)

    def test_guesses_that_are_dead_or_too_long_make_no_screen(self):
        for sketch in few_open(1, 79):
            every = tuple(sorted(every_guess(sketch, 2)))
            for kept in (1, 2):
                self.assertIs(is_screen(sketch, kept, every), is_plain_screen(sketch, kept, every))

    def test_dooms_with_one_thing_otherwise(self):
        judged = {True: 0, False: 0}
        for sketch in few_open(1, 80) + [HALF]:
            for kept in (1, 2):
                found = doom_within(sketch, kept)
                if found is None or len(found) > 7:
                    continue
                for value in otherwise(found):
                    right = is_plain_doom_within(sketch, kept, value)
                    judged[right] += 1
                    self.assertIs(is_doom_within(sketch, kept, value), right, value)
        self.assertTrue(min(judged.values()) > 50, judged)

    def test_judged(self):
        found = screen(HALF, 1)
        self.judges(is_screen, (HALF, 1), [found], [list(found), found[1:], found[::-1], found + found[-1:], (), ((),),
                                                    screen(HALF, 1)[:3], (found,), {guess: True for guess in found}])
        self.judges(is_doom_within, (HALF, 2), [DOOM], [{}, {**DOOM, (): (2, ("own",))}, list(DOOM)])
        # A key of two pairs that goes on is too long for two, and any key of two pairs is for one.
        more = {**DOOM, ((A, 0), (B, 0)): (9, ("cell", ((0, 1), 1)))}
        self.assertIs(is_doom(HALF, more), True)
        self.assertIs(is_doom_within(HALF, 2, more), False)
        self.assertIs(is_doom_within(HALF, 3, more), True)
        dead = Sketch((2, 2), (2, 2), ((0, 0), (1, None), (None, 1), (None, 1)))
        short = {(): (1, ("cell", A)), ((A, 0),): (0, ("pair", (0, 1), (1, 1))),
                 ((A, 1),): (0, ("pair", (0, 0), (1, 1)))}
        long = {**short, ((((1, 0), 0), 0), (A, 0)): (0, ("pair", (0, 1), (1, 1)))}
        self.assertTrue(is_doom_within(dead, 1, short) and is_doom(dead, long) and is_doom_within(dead, 2, long))
        self.assertIs(is_doom_within(dead, 1, long), False)
        self.judges(is_screen, (HALF, 2), [], OTHER_KINDS + [found, deep_value()])
        whole = Sketch((1,), (2,), ((1,),))
        self.judges(is_screen, (whole, 1), [((),)], [(), [()], ((), ()), ((((0,), 0), 1),)])

    def test_great_dooms_within_more(self):
        for base in (turning_table(), spark_four()):
            draw = random.Random(81)
            for _ in range(10):
                sketch = partly_known(draw, base, 85)
                for kept in (1, 2):
                    found, reason = screen(sketch, kept), doom_within(sketch, kept)
                    self.assertIsNone(reason)
                    self.assertIs(is_screen(sketch, kept, found), True)
        self.assertEqual(len(every_cell(spark_four())), 64)
