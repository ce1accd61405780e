"""What holds for all functions: by position and by name, new results, nothing that is passed is changed."""

import unittest
from copy import deepcopy

from onestory import (asking, backwards, barren, building, chances, classes, clocks, closings, counts, fairness, fine,
                      homes, house, leads, listing, mixed, mixtures, nears, ones, rebuilding, renamings, rings, screens,
                      sketches, stamps, stories, tables, talks, telling, texts, turns, walks, ways)
from onestory.chances import Chances
from onestory.sketches import Sketch
from onestory.tables import Table, quiet_table, ring_table, turning_table
from tests.test_language import INTERFACE

TURNING = turning_table()
RING = ring_table((2, 2))
QUIET = quiet_table((2, 1), (1, 1))
SAME = ((0, 1),) * 3
BOTH = ((0, 1), (0, 1))
HALF = (((1, 1), (0, 2)),) * 3
HALF_KNOWN = Sketch((2, 2), (2, 2), ((0, 0), (1, None), (None, 1), (None, 1)))
LED = Table((2, 2), (2, 2), ((0, 0), (0, 0), (0, 1), (0, 1)))
CROSS = Table((2, 2), (2, 2), ((0, 0), (1, 0), (0, 0), (1, 0)))
STAMP = (((0, 0), 0), ((0, 0), 1), ((1, 0), 1))
NAMES = ((1, 0), ((0, 1), (1, 0)), ((1, 0), (0, 1)))
CRUX = Sketch((2, 2), (2, 2), ((0, 0), (1, None), (None, None), (None, 1)))
BLANK = Sketch((2,), (3,), ((None,), (None,)))
FIT = Table((2,), (3,), ((2,), (2,)))
DOOM = {(): (1, ("cell", ((1, 1), 0))), ((((1, 1), 0), 0),): (0, ("pair", (0, 1), (1, 1))),
        ((((1, 1), 0), 1),): (0, ("pair", (0, 0), (1, 1)))}
CLOCK = ("first", 1, 0, (("first", 0, 0, (("done",), ("done",))),))

ZERO = Table((2,), (2,), ((0,), (0,)))
ONE = Table((2,), (2,), ((1,), (1,)))
HOUSE = Table((2, 1), (1, 2), ((0, 1), (0, 0)))
ASKED = [LED, CROSS, quiet_table((2, 2), (2, 2))]
WHICH = ("which",)
BREAKER = Table((2, 2), (2, 2), ((0, 1),) * 4)
BLEND = [(2, LED), (1, RING)]
BLENDED = chances.blended(BLEND)
BOTH_LED = chances.blended([(2, LED), (1, CROSS)])
ENDS = ((0, 0, 0), (1, 1, 1))
ALWAYS = [((0, 0),) * 3, ((1, 1),) * 3]
LEADS = {"table": TURNING, "safe": ENDS, "start": ALWAYS[0], "goal": ALWAYS[1]}
BUILT = {"one": quiet_table((2, 2), (1, 1)), "other": quiet_table((2, 2), (1, 1)), "safe": ((0, 0), (1, 1)),
         "start": ((0,), (0,)), "goal": ((1,), (1,))}
LIVED = house.House(TURNING)
LIVED.bind({2: (0, 1), 0: (1, 1)})
LIVED.guard(None)

CALLS = [
    (tables.sendings, {"sends": (2, 3)}), (tables.delivery, {"table": TURNING, "sending": (0, 1, 0)}),
    (tables.changed, {"table": TURNING, "sending": (0, 1, 0), "room": 1, "note": 1}),
    (tables.ring_table, {"sizes": (2, 3)}), (tables.quiet_table, {"sends": (2, 3), "takes": (1, 2)}),
    (tables.turning_table, {}), (tables.Table, {"sends": (1,), "takes": (2,), "notes": ((1,),)}),
    (stories.is_rule, {"table": RING, "room": 1, "thing": (0, 1)}), (stories.are_rules, {"table": RING, "thing": BOTH}),
    (stories.answer, {"table": RING, "rules": BOTH, "sending": (0, 1)}),
    (stories.stories, {"table": RING, "rules": BOTH}),
    (stories.is_story, {"table": RING, "rules": BOTH, "thing": (1, 1)}), (stories.all_rules, {"table": RING}),
    (stories.rules_for, {"table": RING, "sending": (0, 1)}),
    (fine.part, {"table": RING, "one": (0, 1), "other": (1, 1)}), (fine.is_fine, {"table": QUIET}),
    (fine.first_pair, {"table": RING}), (fine.unparted, {"table": RING}), (fine.paper, {"table": QUIET}),
    (fine.is_paper, {"table": QUIET, "thing": {((0, 0), (1, 0)): 0}}),
    (barren.two_stories, {"table": RING}), (barren.no_story, {"table": RING}),
    (barren.is_two, {"table": RING, "thing": (BOTH, (0, 0), (1, 1))}),
    (barren.is_none, {"table": RING, "thing": ((0, 1), (1, 0))}),
    (counts.story_counts, {"table": RING}),
    (counts.difference, {"table": RING, "rules": BOTH, "sending": (0, 1)}),
    (counts.differences, {"table": RING, "rules": BOTH}), (counts.first_clash, {"table": RING, "rules": BOTH}),
    (mixed.are_mixed, {"table": TURNING, "thing": HALF}), (mixed.whole, {"table": TURNING, "mixed": HALF}),
    (mixed.shares, {"table": TURNING, "mixed": HALF}), (mixed.mean_stories, {"table": TURNING, "mixed": HALF}),
    (ones.the_story, {"table": TURNING, "rules": SAME}),
    (ones.course, {"table": TURNING, "rules": SAME, "sending": (1, 1, 1)}),
    (ones.is_course, {"table": TURNING, "rules": SAME, "sending": (1, 1, 1), "thing": [1, 2, 0]}),
    (closings.self_pair, {"table": ring_table((2,)), "room": 0}),
    (closings.held, {"table": TURNING, "room": 1, "sent": 1}),
    (closings.closed, {"table": TURNING, "room": 1, "rule": (1, 0)}),
    (closings.completed, {"table": TURNING, "room": 1, "rule": (1, 0), "rest": (0, 1)}),
    (closings.bad_closing, {"table": RING, "room": 1}),
    (closings.is_bad_closing, {"table": RING, "room": 1, "thing": ("rule", (0, 1))}),
    (closings.settled, {"table": TURNING, "rules": SAME, "queue": (1, 0, 2)}),
    (closings.possible, {"table": TURNING, "known": {2: (0, 1), 0: (1, 0)}}),
    (closings.sure_notes, {"table": TURNING, "known": {2: (0, 1), 0: (1, 0)}}),
    (closings.sure_sends, {"table": TURNING, "known": {2: (0, 1), 0: (1, 0)}}),
    (closings.completion, {"table": TURNING, "known": {2: (0, 1), 0: (1, 0)}, "rest": (1,)}),
    (closings.least_known, {"table": TURNING, "rules": SAME, "room": 1}),
    (talks.pair_table, {"table": TURNING, "one": 0, "other": 2, "known": {1: (0, 1)}}),
    (talks.hearing, {"table": TURNING, "one": 0, "other": 2, "known": {1: (0, 1)}}),
    (talks.bad_pair, {"table": ring_table((2, 2, 2)), "one": 0, "other": 2}),
    (talks.is_bad_pair, {"table": ring_table((2, 2, 2)), "one": 0, "other": 2, "thing": {1: (0, 1)}}),
    (talks.heard, {"table": TURNING, "rules": SAME}), (talks.talk, {"table": TURNING, "speaker": 2, "hearer": 1}),
    (talks.is_talk, {"table": TURNING, "speaker": 0, "hearer": 1, "thing": ((0, 0, 0), (1, 0, 0))}),
    (talks.talk_rules, {"table": TURNING, "speaker": 0, "hearer": 1, "talk": ((0, 0, 0), (1, 0, 0))}),
    (talks.tellings, {"table": TURNING}),
    (clocks.hears, {"table": TURNING}), (clocks.first_rooms, {"table": TURNING, "held": {1: 0}}),
    (clocks.clock, {"table": QUIET}), (clocks.is_clock, {"table": QUIET, "thing": CLOCK}),
    (clocks.knots, {"table": TURNING}), (clocks.knot, {"table": TURNING}),
    (clocks.is_knot, {"table": TURNING, "thing": {}}),
    (rings.fixed_order, {"table": QUIET}), (rings.is_fixed_order, {"table": QUIET, "thing": (1, 0)}),
    (rings.rings, {"table": TURNING}), (rings.lone_rings, {"table": RING}),
    (rings.ring_two, {"table": RING, "ring": (0, 1)}), (rings.ring_none, {"table": RING, "ring": (0, 1)}),
    (walks.walk, {"table": TURNING, "rules": SAME, "sending": (1, 1, 0)}),
    (walks.is_wheel, {"table": RING, "thing": [(0, 0), (1, 1)]}),
    (walks.wheel_rules, {"table": RING, "wheel": [(0, 0), (1, 1)]}), (walks.spark_table, {"sparks": ((0, 1), (0, 1))}),
    (homes.basin, {"table": RING, "told": {(1, 1): 0, (0, 0): 1}}),
    (homes.is_home_tree, {"table": QUIET, "thing": ("tell", 0, 0, (("home", (0, 0)), ("home", (1, 0))))}),
    (homes.home_tree, {"table": QUIET}), (homes.wheel, {"table": TURNING}),
    (sketches.Sketch, {"sends": (1,), "takes": (2,), "notes": ((None,),)}),
    (sketches.sketch_of, {"table": RING, "cells": (((0, 1), 0), ((1, 1), 1))}),
    (sketches.put, {"sketch": HALF_KNOWN, "cell": ((0, 1), 0), "note": None}),
    (sketches.open_cells, {"sketch": HALF_KNOWN}), (sketches.is_fit, {"sketch": BLANK, "thing": FIT}),
    (sketches.guessed, {"sketch": HALF_KNOWN, "guess": ((((0, 1), 1), 1),)}),
    (sketches.dead_pair, {"sketch": HALF_KNOWN}), (ways.some_fit, {"sketch": BLANK}),
    (ways.doom, {"sketch": HALF_KNOWN}), (ways.is_doom, {"sketch": HALF_KNOWN, "thing": DOOM}),
    (ways.fits, {"sketch": BLANK, "most": 3}), (ways.sure, {"sketch": BLANK}), (ways.crux, {"sketch": HALF_KNOWN}),
    (ways.is_crux, {"sketch": HALF_KNOWN, "thing": CRUX}),
    (ways.story_fits, {"sketch": BLANK, "rules": ((0, 1, 1),)}), (screens.screen, {"sketch": HALF_KNOWN, "kept": 1}),
    (screens.is_screen, {"sketch": BLANK, "kept": 1, "thing": ((), ((((0,), 0), 2),), ((((1,), 0), 2),))}),
    (screens.doom_within, {"sketch": HALF_KNOWN, "kept": 2}),
    (screens.is_doom_within, {"sketch": HALF_KNOWN, "kept": 2, "thing": DOOM}),
    (screens.least_kept, {"sketch": HALF_KNOWN}),
    (nears.near, {"table": RING, "many": 2}), (nears.is_near, {"table": QUIET, "many": 0, "thing": QUIET}),
    (nears.far_paper, {"table": RING, "many": 1}),
    (nears.is_far_paper, {"table": RING, "many": 1, "thing": nears.far_paper(RING, 1)}),
    (nears.distance, {"table": RING}), (nears.nearest, {"table": RING, "most": 4}),
    (stamps.is_stamp, {"table": LED, "thing": STAMP}), (stamps.lock, {"table": LED, "cells": STAMP}),
    (stamps.is_lock, {"table": LED, "cells": STAMP, "thing": stamps.lock(LED, STAMP)}),
    (stamps.other_fit, {"table": LED, "cells": STAMP[:2]}), (stamps.fewest_stamp, {"table": LED}),
    (stamps.stamp, {"table": LED}), (stamps.stamp_paper, {"table": LED, "many": 2}),
    (stamps.is_stamp_paper, {"table": LED, "many": 2, "thing": stamps.stamp_paper(LED, 2)}),
    (stamps.needed, {"table": QUIET}), (classes.rests, {"table": TURNING, "room": 1}),
    (classes.ties, {"table": TURNING, "room": 0, "one": (0, 0), "other": (1, 0)}),
    (classes.chain, {"table": TURNING, "room": 0, "one": (0, 0), "other": (1, 0)}),
    (classes.is_chain, {"table": TURNING, "room": 0, "one": (0, 0), "other": (1, 0), "thing": [(0, 1, (1, 0))]}),
    (classes.classes, {"table": TURNING, "room": 0}), (classes.class_notes, {"table": TURNING, "room": 0}),
    (classes.apart, {"table": TURNING, "room": 0, "one": (0, 0), "other": (0, 1)}),
    (classes.is_apart, {"table": TURNING, "room": 0, "one": (0, 0), "other": (0, 1), "thing": TURNING}),
    (turns.turned, {"table": TURNING, "room": 2, "notes": (1, 1)}),
    (turns.passed, {"table": TURNING, "turns": [(2, (1, 1)), (2, (0, 1))]}),
    (turns.is_way, {"one": LED, "other": CROSS, "thing": [(1, (0,) * 2), (0, (0, 1))]}),
    (turns.hushed, {"table": RING, "rooms": (0, 1)}), (turns.plain_way, {"one": LED, "other": CROSS}),
    (turns.mixed, {"one": LED, "other": CROSS, "mix": (1, 2)}), (turns.fewest_turns, {"one": LED, "other": CROSS}),
    (turns.short_way, {"one": LED, "other": CROSS}), (turns.bar, {"one": LED, "other": CROSS, "number": 1}),
    (turns.is_bar, {"one": LED, "other": CROSS, "number": 1, "thing": {(2, 0): ((0, 0), (1, 1))}}),
    (renamings.is_renaming, {"sends": (2, 2), "takes": (2, 2), "thing": NAMES}),
    (renamings.no_renaming, {"sends": (2, 2), "takes": (2, 2)}),
    (renamings.renamed_sizes, {"sends": (2, 2), "takes": (2, 2), "renaming": NAMES}),
    (renamings.renaming_back, {"sends": (2, 2), "takes": (2, 2), "renaming": NAMES}),
    (renamings.renaming_on, {"sends": (2, 2), "takes": (2, 2), "renaming": NAMES, "then": NAMES}),
    (renamings.renamed, {"table": LED, "renaming": NAMES}),
    (renamings.renamed_sending, {"table": LED, "renaming": NAMES, "sending": (0, 1)}),
    (renamings.renamed_rules, {"table": LED, "renaming": NAMES, "rules": BOTH}),
    (renamings.renamed_paper, {"table": LED, "renaming": NAMES, "paper": fine.paper(LED)}),
    (renamings.keeping_count, {"sends": (2, 2), "takes": (2, 2)}), (renamings.renamings, {"one": LED, "other": CROSS}),
    (renamings.alike, {"one": LED, "other": CROSS}), (renamings.likes, {"table": LED}),
    (renamings.first_like, {"table": LED}),
    (listing.layers_of, {"table": TURNING, "room": 1}), (listing.layer_classes, {"layers": (ZERO, ONE)}),
    (listing.room_in, {"layers": (ZERO, ONE), "place": 0, "take": 3, "notes": (2,)}),
    (listing.wished, {"layers": (ZERO, ZERO), "place": 0, "take": 3, "wishes": {(1,): 2, (0,): 1}}),
    (listing.wish_chain, {"layers": (ZERO, ONE), "take": 3, "wishes": {(1,): 2, (0,): 1}}),
    (listing.is_wished, {"layers": (ZERO, ZERO), "place": 1, "take": 2, "wishes": {(1,): 1, (0,): 0}, "thing": Table(
        (2, 2), (2, 2), ((0, 0), (0, 0), (0, 1), (0, 1)))}),
    (listing.is_wish_chain, {"layers": (ZERO, ONE), "take": 2, "wishes": {(1,): 1, (0,): 0},
                             "thing": ((0,), [(0, 1, (1,))])}),
    (listing.fine_count, {"sends": (2, 2), "takes": (2, 3)}), (listing.fine_tables, {"sends": (2, 2), "takes": (1, 2)}),
    (listing.kinds, {"sends": (2, 2), "takes": (2, 2)}), (building.beside, {"first": RING, "second": QUIET}),
    (building.pieces, {"table": RING}), (building.piece_tables, {"table": QUIET}),
    (building.split, {"table": quiet_table((6,), (2,)), "room": 0, "one": 2, "other": 3}),
    (building.glued, {"table": QUIET, "room": 0}), (building.inside, {"table": TURNING, "team": (0, 2), "rest": (1,)}),
    (building.replaced, {"table": TURNING, "team": (0, 2), "rest": (1,), "inner": RING}),
    (building.is_free, {"table": quiet_table((2, 2), (2, 2)), "team": (0,), "rest": (1,)}),
    (building.free_teams, {"table": LED}), (building.breaker, {"table": TURNING, "team": (0, 2), "rest": (1,)}),
    (building.is_breaker, {"table": TURNING, "team": (0, 2), "rest": (0,), "thing": BREAKER}),
    (building.nested, {"table": LED, "room": 1, "house": HOUSE}),
    (building.two_doors, {"table": LED, "room": 1, "rule": (1, 0)}), (backwards.opened, {"table": ZERO}),
    (backwards.is_two_way, {"table": RING}), (backwards.backwards, {"table": RING}),
    (telling.checking_rules, {"table": TURNING, "sending": (0, 1, 0)}),
    (telling.is_checking, {"table": LED, "sending": (0, 1), "thing": ((0, 1), (1, 0))}),
    (telling.telling_rules, {"one": LED, "other": CROSS}),
    (telling.is_telling, {"one": LED, "other": CROSS, "thing": ((1, 0), (0, 1))}),
    (telling.same_stories, {"one": LED, "other": CROSS}),
    (asking.reply, {"tables": ASKED, "aim": WHICH, "index": 1, "question": BOTH}),
    (asking.settled_lots, {"tables": ASKED, "aim": ("story", BOTH)}),
    (asking.asking_tree, {"tables": ASKED, "aim": WHICH}),
    (asking.fewest_asked, {"tables": ASKED, "aim": WHICH}),
    (asking.is_asking_tree, {"tables": ASKED, "aim": WHICH, "number": 2, "thing": asking.asking_tree(ASKED, WHICH)}),
    (asking.asking_ranks, {"tables": ASKED, "aim": WHICH, "number": 1}),
    (asking.are_asking_ranks, {"tables": ASKED, "aim": WHICH, "number": 1,
                               "thing": asking.asking_ranks(ASKED, WHICH, 1)}),
    (chances.Chances, {"sends": (1,), "takes": (2,), "weights": ((((0,), 1), ((1,), 1)),)}),
    (chances.blended, {"blend": BLEND}), (chances.odd_ring, {"rooms": 3}),
    (chances.weight, {"chances": BLENDED, "sending": (1, 1), "delivery": (0, 1)}),
    (chances.cells, {"chances": BLENDED}),
    (chances.story_weights, {"chances": BLENDED, "rules": BOTH}), (chances.tally, {"chances": BLENDED, "rules": BOTH}),
    (fairness.is_fair, {"chances": BOTH_LED}), (fairness.unfair_rules, {"chances": BLENDED}),
    (fairness.is_unfair, {"chances": chances.odd_ring(2), "thing": (((0, 1), (1, 0)), BOTH)}),
    (fairness.signed_sum, {"chances": BLENDED, "lot": (1,), "heard": (1,), "one": (0, 0), "other": (1, 1)}),
    (fairness.first_odd, {"chances": BLENDED}), (fairness.self_heard, {"chances": BLENDED, "room": 0}),
    (fairness.mean_closed, {"chances": BLENDED, "room": 0, "rule": (0, 1)}),
    (mixtures.inside, {"chances": BLENDED}), (mixtures.is_part, {"chances": BLENDED, "thing": (1, [(1, LED)])}),
    (mixtures.is_price_list, {"chances": BLENDED, "thing": mixtures.least_prices(BLENDED)}),
    (mixtures.share_of, {"chances": BLENDED, "part": (1, [(1, LED)])}),
    (mixtures.bound_of, {"chances": BLENDED, "prices": mixtures.least_prices(BLENDED)}),
    (mixtures.fine_share, {"chances": BLENDED}), (mixtures.greatest_part, {"chances": BLENDED}),
    (mixtures.least_prices, {"chances": BLENDED}), (mixtures.mixture, {"chances": BOTH_LED}),
    (mixtures.is_mixture, {"chances": BOTH_LED, "thing": [(2, LED), (1, CROSS)]}),
    (mixtures.led, {"chances": BOTH_LED}), (mixtures.is_led, {"chances": BOTH_LED, "thing": mixtures.led(BOTH_LED)}),
    (house.House, {"table": TURNING}), (leads.parting, {"table": TURNING, "one": (0, 0, 0), "other": (1, 1, 0)}),
    (leads.binding_step, {"table": TURNING, "one": (0, 0, 0), "other": (1, 1, 0)}),
    (leads.is_binding_step, {"table": TURNING, "one": ENDS[0], "other": ENDS[1], "thing": tuple(ALWAYS)}),
    (leads.passage, {**LEADS, "most": 3}), (leads.is_passage, {**LEADS, "most": 3, "thing": list(ALWAYS)}),
    (leads.fence, {**LEADS, "most": 2}), (leads.is_fence, {**LEADS, "most": 2, "thing": ENDS[:1]}),
    (leads.heights, {**LEADS, "most": 2, "number": 3}),
    (leads.are_heights, {**LEADS, "most": 2, "number": 3, "thing": {(1, 1, 1): 4, (0, 0, 0): 0}}),
    (leads.fewest_changes, {**LEADS, "most": 3}), (leads.least_most, LEADS),
    (rebuilding.rebuilding, {**BUILT, "most": 2}),
    (rebuilding.is_rebuilding, {**BUILT, "most": 2, "thing": [(BUILT["one"], BUILT["start"]),
                                                              (BUILT["one"], BUILT["goal"])]}),
    (rebuilding.deaf_rooms, {"table": BUILT["one"]}), (rebuilding.moat, {**BUILT, "most": 1}),
    (rebuilding.is_moat, {**BUILT, "most": 1, "thing": ((0, 0),)}), (texts.house_text, {"house": LIVED}),
    (texts.read_house, {"text": texts.house_text(LIVED)}),
]


def copied(thing):
    """The same value, down to the kinds of what is in it; a Table and the like as what it is made of."""
    if isinstance(thing, (Table, Sketch)):
        return (thing.__class__, thing.sends, thing.takes, thing.notes)
    if isinstance(thing, Chances):
        return (thing.__class__, thing.sends, thing.takes, thing.weights, thing.total)
    return deepcopy(thing)


def spoilt(thing):
    """Empties each list and each dict, at every depth."""
    if isinstance(thing, (list, tuple)):
        for part in thing:
            spoilt(part)
    if isinstance(thing, dict):
        for part in thing.values():
            spoilt(part)
    if isinstance(thing, (list, dict)):
        thing.clear()


class Conventions(unittest.TestCase):
    def test_by_position_and_by_name_in_any_order(self):
        for function, given in CALLS:
            found = function(*given.values())
            self.assertEqual(found, function(**given), function)
            self.assertEqual(found, function(**{name: given[name] for name in reversed(list(given))}))

    def test_kinds_are_told_apart(self):
        for function, given in CALLS:
            found = function(**given)
            if function.__name__.startswith(("is_", "are_")):
                self.assertIs(found, True, function)
            self.assertIs(found.__class__, function(**given).__class__)

    def test_what_is_passed_is_not_changed(self):
        for function, given in CALLS:
            before = {name: copied(value) for name, value in given.items()}
            order = {name: list(value) for name, value in given.items() if isinstance(value, dict)}
            function(**given)
            self.assertEqual({name: copied(value) for name, value in given.items()}, before, function)
            self.assertEqual({name: list(value) for name, value in given.items() if isinstance(value, dict)}, order)

    def test_what_is_returned_is_new_at_every_depth(self):
        for function, given in CALLS:
            found = function(**given)
            wanted = deepcopy(found)
            spoilt(found)
            self.assertEqual(function(**given), wanted, function)

    def test_what_is_passed_may_be_changed_later(self):
        known = {1: (0, 1)}
        found = talks.pair_table(TURNING, 0, 2, known)
        wanted = copied(found)
        known.clear()
        self.assertEqual(copied(found), wanted)

    def test_dicts_have_ascending_keys(self):
        for function, given in CALLS:
            found = function(**given)
            if isinstance(found, dict):
                self.assertEqual(list(found), sorted(found), function)

    def test_all_functions_of_the_interface_are_called_here(self):
        listed = [f"onestory.{name}.{call.partition('(')[0]}" for name in INTERFACE for call in INTERFACE[name].split()]
        self.assertEqual(sorted(f"{function.__module__}.{function.__name__}" for function, _ in CALLS), sorted(listed))
