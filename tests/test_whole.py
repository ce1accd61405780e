"""[2] What holds over functions of several modules, (a) to (i); [1], [4] and [5] by way of them."""

import random
from itertools import permutations, product

from onestory.asking import asking_ranks, asking_tree, fewest_asked, is_asking_tree
from onestory.backwards import backwards, opened
from onestory.barren import no_story, two_stories
from onestory.building import beside, piece_tables, split
from onestory.chances import blended, odd_ring, tally
from onestory.classes import chain, class_notes, classes
from onestory.clocks import clock, knot
from onestory.closings import bad_closing, closed, settled
from onestory.counts import first_clash, story_counts
from onestory.errors import HearsItself
from onestory.fairness import is_fair, unfair_rules
from onestory.fine import first_pair, is_fine, paper
from onestory.homes import home_tree, wheel
from onestory.house import House
from onestory.leads import fence, least_most, passage
from onestory.listing import fine_count, fine_tables, kinds, layers_of, room_in
from onestory.mixed import mean_stories, shares, whole
from onestory.mixtures import bound_of, fine_share, greatest_part, least_prices, mixture, share_of
from onestory.nears import distance, far_paper, near, nearest
from onestory.ones import course, is_course, the_story
from onestory.rebuilding import moat, rebuilding
from onestory.renamings import alike, first_like, likes
from onestory.rings import fixed_order, rings
from onestory.sketches import Sketch, is_fit, sketch_of
from onestory.stamps import fewest_stamp, is_stamp, stamp, stamp_paper
from onestory.stories import all_rules, stories
from onestory.tables import Table, quiet_table, ring_table, turning_table
from onestory.talks import bad_pair, heard
from onestory.telling import same_stories, telling_rules
from onestory.texts import house_text, read_house
from onestory.turns import bar, fewest_turns, passed, plain_way, short_way
from onestory.walks import walk
from onestory.ways import crux, doom, fits, some_fit, sure
from tests.samples import (Case, brings, clocked_table, every_rules, fine_of, fine_tables as fine_samples, plain_fine,
                           plain_stories, random_rules, random_sketch, random_table, rows, some_tables, spark_four,
                           wandered_table)

TURNING = turning_table()
RING = ring_table((2, 2))


def small_tables(seed=1200):
    """Tables with few rules, fine ones and others."""
    draw = random.Random(seed)
    found = [TURNING, RING, spark_four(), ring_table((2, 2, 2)), ring_table((3,)), quiet_table((2, 1, 2), (2, 1, 1))]
    for sends, takes in [((2, 2), (2, 2)), ((2, 2, 2), (2, 2, 2)), ((3, 2), (2, 1)), ((2, 1, 2), (2, 2, 2))]:
        for _ in range(3):
            led = clocked_table(draw, sends, takes)
            found += [random_table(draw, sends, takes), led, wandered_table(draw, led, 10)]
    return found


class OneStory(Case):
    def test_a_at_most_one_at_least_one_and_just_one(self):
        seen = set()
        for table in small_tables():
            counts = [len(plain_stories(table, rules)) for rules in every_rules(table)]
            fine = is_fine(table)
            seen.add(fine)
            self.assertEqual(fine, max(counts) <= 1)
            self.assertEqual(fine, min(counts) >= 1)
            self.assertEqual(fine, set(counts) == {1})
            self.assertEqual(fine, first_pair(table) is None)
            self.assertEqual(fine, paper(table) is not None)
            self.assertEqual(fine, two_stories(table) is None)
            self.assertEqual(fine, no_story(table) is None)
            self.assertEqual(fine, story_counts(table) == {1: all_rules(table)})
            self.assertEqual(fine, is_fair(blended([(1, table)])))
            self.assertEqual(fine, distance(table) == 0)
            self.assertEqual(fine, is_fit(sketch_of(table, ()), table))
            if not fine:
                rules, one, other = two_stories(table)
                self.assertIn(one, stories(table, rules))
                self.assertIn(other, stories(table, rules))
                self.assertEqual(stories(table, no_story(table)), [])
                low, high = unfair_rules(blended([(1, table)]))
                self.assertEqual(stories(table, low), [])
                self.assertGreater(len(stories(table, high)), 1)
        self.assertEqual(seen, {True, False})

    def test_a_a_course_from_every_sending(self):
        draw = random.Random(1201)
        for table in small_tables():
            for rules in [random_rules(draw, table) for _ in range(5)]:
                if is_fine(table):
                    for sent in rows(table.sends):
                        self.assertTrue(is_course(table, rules, sent, course(table, rules, sent)))
                    self.assertIsNone(first_clash(table, rules))

    def test_b_rooms_closed_in_any_order(self):
        draw = random.Random(1202)
        for table in fine_samples(1):
            rules = random_rules(draw, table)
            story = the_story(table, rules)
            for queue in list(permutations(range(len(rules))))[:24]:
                tables, told = settled(table, rules, queue)
                self.assertTrue(all(plain_fine(left) for left in tables))
                self.assertEqual(told, story)
            pairs = heard(table, rules)
            self.assertFalse([pair for pair in pairs if pair[::-1] in pairs])
            house = House(table)
            for room in draw.sample(range(len(rules)), len(rules)):
                house.bind({room: rules[room]})
            self.assertEqual(house.possible(), [story])

    def test_b_what_is_not_fine_shows_by_any_room_and_any_pair(self):
        for table in some_tables(1):
            for room in range(len(table.sends)):
                self.assertEqual(bad_closing(table, room) is None, is_fine(table))
                for other in range(room + 1, len(table.sends)):
                    self.assertEqual(bad_pair(table, room, other) is None, is_fine(table))
            if not is_fine(table):
                for queue in list(permutations(range(len(table.sends))))[:6]:
                    self.refused(HearsItself, settled, table, two_stories(table)[0], queue)

    def test_c_a_clock_or_a_knot_homes_or_a_wheel(self):
        draw = random.Random(1203)
        for table in small_tables():
            led = clock(table) is not None
            self.assertEqual(led, knot(table) is None)
            home = home_tree(table) is not None
            self.assertEqual(home, wheel(table) is None)
            self.assertLessEqual(led, home)
            self.assertLessEqual(home, is_fine(table))
            self.assertEqual(fixed_order(table) is None, rings(table) != [])
            self.assertLessEqual(fixed_order(table) is not None, led)
            for rules in [random_rules(draw, table) for _ in range(6)] if home else []:
                for sent in rows(table.sends):
                    self.assertEqual(walk(table, rules, sent)[1], [the_story(table, rules)])


class Cells(Case):
    def test_d_a_fit_or_a_doom_near_or_far_a_stamp_or_a_paper(self):
        draw = random.Random(1204)
        for sends, takes in [((2, 2), (2, 2)), ((3,), (2,)), ((2, 1, 2), (2, 2, 2)), ((2, 2), (1, 3))]:
            every = fine_tables(sends, takes)
            for _ in range(6):
                sketch = random_sketch(draw, sends, takes, 60)
                fitting = [table for table in every if is_fit(sketch, table)]
                self.assertEqual(fits(sketch, 20000), fitting)
                self.assertEqual((some_fit(sketch) is None, doom(sketch) is None), (fitting == [], fitting != []))
                self.assertEqual(crux(sketch) is None, fitting != [])
                if fitting:
                    known = [note for line in sketch.notes for note in line]
                    for here, there in zip(known, [note for line in sure(sketch).notes for note in line]):
                        self.assertTrue(here is None or here == there)
                table = random_table(draw, sends, takes)
                far = [sum(here != there for line, told in zip(table.notes, other.notes)
                           for here, there in zip(line, told)) for other in every]
                self.assertEqual(distance(table), min(far))
                self.assertEqual(nearest(table, 20000), [other for other, n in zip(every, far) if n == min(far)])
                for many in range(4):
                    self.assertEqual((near(table, many) is None, far_paper(table, many) is None),
                                     (many < min(far), many >= min(far)))
        for table in fine_of((2, 2), (2, 2)):
            least = fewest_stamp(table)
            self.assertTrue(is_stamp(table, stamp(table)))
            self.assertEqual(fits(sketch_of(table, stamp(table)), 1), [table])
            for many in range(5):
                self.assertEqual(stamp_paper(table, many) is None, many >= least)

    def test_e_turns_by_classes_lead_from_each_fine_table_to_each_other_one(self):
        draw = random.Random(1205)
        pairs = [(draw.choice(fine_of((2, 2), (2, 2))), draw.choice(fine_of((2, 2), (2, 2)))) for _ in range(20)]
        pairs += [(wandered_table(draw, TURNING, 8), wandered_table(draw, TURNING, 8)) for _ in range(5)]
        for one, other in pairs:
            for way in (plain_way(one, other), short_way(one, other)):
                tables = passed(one, way)
                self.assertEqual((tables[0], tables[-1]), (one, other))
                self.assertTrue(all(plain_fine(table) for table in tables))
                # A house goes the same way.
                house = House(one)
                for (room, _), then in zip(way, tables[1:]):
                    house.turn(room, tuple(received[room] for received in then.notes))
                    self.assertEqual(house.table(), then)
                self.assertEqual(len(house), len(way))
            fewest = fewest_turns(one, other)
            self.assertEqual(len(short_way(one, other)), fewest)
            self.assertIsNone(bar(one, other, fewest))
            if fewest:
                self.assertIsNotNone(bar(one, other, fewest - 1))
            for room in range(len(one.sends)):
                lots = classes(one, room)
                told = dict(zip(lots, class_notes(one, room)))
                for lot in lots:
                    self.assertIsNotNone(chain(one, room, lot[0], lot[-1]))
                    self.assertEqual({brings(one)[rest[:room] + (0,) + rest[room:]][room] for rest in lot}, {told[lot]})

    def test_f_tables_alike_listed_and_built(self):
        for sends, takes in [((2, 2), (2, 2)), ((2, 1, 2), (1, 2, 2)), ((3, 2), (1, 2))]:
            every = fine_tables(sends, takes)
            self.assertEqual(len(every), fine_count(sends, takes))
            self.assertEqual(every, fits(Sketch(sends, takes, ((None,) * len(sends),) * len(rows(sends))), 20000))
            found = [table.notes for kind in kinds(sends, takes) for table in likes(kind)]
            self.assertEqual(sorted(found), [table.notes for table in every])
            for table in every[::3]:
                self.assertIsNotNone(alike(first_like(table), table))
                for room in range(len(sends)):
                    layers, notes = layers_of(table, room), class_notes(table, room)
                    self.assertEqual(room_in(layers, room, takes[room], notes), table)
        for one, other in product([TURNING, RING, quiet_table((2,), (2,))], repeat=2):
            both = beside(one, other)
            self.assertEqual(is_fine(both), is_fine(one) and is_fine(other))
            self.assertEqual(all(is_fine(part) for part in piece_tables(both)), is_fine(both))
            self.assertEqual(is_fine(split(both, 0, 1, 2)) if len(both.sends) < 6 else is_fine(both), is_fine(both))
        self.assertTrue(is_fine(backwards(opened(RING))))


class Questions(Case):
    def test_g_a_tree_or_ranks(self):
        draw = random.Random(1206)
        for _ in range(8):
            tables = [draw.choice(fine_of((2, 2), (2, 2))) for _ in range(5)]
            for aim in [("which",), ("story", random_rules(draw, RING))]:
                fewest = fewest_asked(tables, aim)
                self.assertTrue(is_asking_tree(tables, aim, fewest, asking_tree(tables, aim)))
                self.assertIsNone(asking_ranks(tables, aim, fewest + 1))
                if fewest:
                    self.assertIsNotNone(asking_ranks(tables, aim, fewest))
            for one, other in product(tables, repeat=2):
                self.assertEqual(same_stories(one, other), telling_rules(one, other) is None)
                self.assertEqual(same_stories(one, other), fewest_asked([one, other], ("which",)) == 0)

    def test_h_mixtures_or_prices(self):
        draw = random.Random(1207)
        for sends, takes in [((2, 2), (2, 2)), ((2, 1, 2), (2, 2, 2)), ((3,), (2,))]:
            for _ in range(8):
                blend = [(draw.choice((1, 2)), draw.choice(fine_of(sends, takes))) for _ in range(2)]
                self.assertTrue(is_fair(blended(blend)))
                self.assertEqual(blended(mixture(blended(blend))), blended(blend))
                chances = blended(blend + [(1, random_table(draw, sends, takes))])
                share = fine_share(chances)
                self.assertEqual(share, share_of(chances, greatest_part(chances)))
                self.assertEqual(share, bound_of(chances, least_prices(chances)))
                self.assertEqual(mixture(chances) is None, share != (1, 1))
                if mixture(chances) is not None or is_fair(chances):
                    for rules in every_rules(quiet_table(sends, takes))[::5]:
                        self.assertEqual(tally(chances, rules), chances.total)
        self.assertEqual((is_fair(odd_ring(3)), fine_share(odd_ring(3))), (True, (0, 1)))
        half = (((1, 1), (0, 2)),) * 3
        self.assertEqual((whole(TURNING, half), sum(shares(TURNING, half).values()), mean_stories(TURNING, half)),
                         (8, 8, (1, 1)))


class Houses(Case):
    def test_i_all_told_and_all_taken_back(self):
        draw = random.Random(1208)
        for table in [TURNING, spark_four()] + fine_of((2, 2), (2, 2))[::4]:
            house = House(table)
            told = []
            for _ in range(8):
                told.append((house.possible(), house.table(), house.bound(), house.guarded(), house.log()))
                room = draw.randrange(len(table.sends))
                house.bind({room: random_rules(draw, table)[room]})
                told.append((house.possible(), house.table(), house.bound(), house.guarded(), house.log()))
                notes = class_notes(house.table(), room)
                lot = {rest: note for rests, note in zip(classes(house.table(), room), notes[::-1]) for rest in rests}
                house.turn(room, tuple(lot[sent[:room] + sent[room + 1:]] for sent in rows(table.sends)))
                told.append((house.possible(), house.table(), house.bound(), house.guarded(), house.log()))
                house.guard(tuple(house.possible()))
                told.append((house.possible(), house.table(), house.bound(), house.guarded(), house.log()))
                house.guard(None)
            again = read_house(house_text(house))
            self.assertTrue(again == house and again.log() == house.log())
            for found in told[::-1]:
                house.undo()
                self.assertEqual(
                    (house.possible(), house.table(), house.bound(), house.guarded(), house.log()), found)
            self.assertEqual(house, House(table))

    def test_i_safe_ways_or_fences(self):
        draw = random.Random(1209)
        seen = set()
        for table in [TURNING, spark_four(), quiet_table((2, 2, 2), (1, 1, 2))] + fine_of((2, 2), (1, 2)):
            for _ in range(4):
                start, goal = random_rules(draw, table), random_rules(draw, table)
                ends = {the_story(table, start), the_story(table, goal)}
                safe = tuple(sorted(ends | set(draw.sample(rows(table.sends), 2))))
                least = least_most(table, safe, start, goal)
                for most in range(1, len(table.sends) + 1):
                    found = passage(table, safe, start, goal, most)
                    seen.add(found is None)
                    self.assertEqual((found is None, fence(table, safe, start, goal, most) is None),
                                     (most < least, most >= least))
                    other = rebuilding(table, table, safe, start, goal, most)
                    self.assertEqual(other is None, moat(table, table, safe, start, goal, most) is not None)
                    if found is not None:
                        self.assertIsNotNone(other)
                        # A house under this guard can be bound so, step by step.
                        house = House(table)
                        house.bind(dict(enumerate(start)))
                        house.guard(safe)
                        for rules in found[1:]:
                            house.bind(dict(enumerate(rules)))
                        self.assertEqual(house.bound(), dict(enumerate(goal)))
        self.assertEqual(seen, {True, False})

    def test_rooms_closed_are_rooms_bound(self):
        draw = random.Random(1210)
        for table in fine_samples(1):
            if len(table.sends) > 1:
                room = draw.randrange(len(table.sends))
                rule = random_rules(draw, table)[room]
                house = House(table)
                house.bind({room: rule})
                self.assertEqual(house.left(), closed(table, room, rule))
        self.assertEqual(House(Table((1,), (1,), ((0,),))).possible(), [(0,)])
