"""[60] Classes of rests, ties, chains and tables apart."""

import random
from itertools import product

from onestory.classes import apart, chain, class_notes, classes, is_apart, is_chain, rests, ties
from onestory.errors import BadRest, BadRoom, BadTable, NotFine, OneNote
from onestory.fine import is_fine
from onestory.tables import Table, quiet_table, ring_table, turning_table
from tests.samples import (OTHER_KINDS, ZERO_ALWAYS, Case, brings, deep_value, every_table, fine_of, fine_tables,
                           otherwise, parting_rooms, plain_fine, plain_hears, rows, same, some_tables, spark_four,
                           whole_families, wrong_numbers, wrong_rows, wrong_tables)

RING = ring_table((2, 2))
TURNING = turning_table()
TABLES = whole_families()[::4] + some_tables(1)


def others(table, room):
    return table.sends[:room] + table.sends[room + 1:]


def with_own(room, number, rest):
    return rest[:room] + (number,) + rest[room:]


def plain_ties(table, room, one, other):
    if one == other:
        return []
    return [(x, y) for x in range(table.sends[room]) for y in range(table.sends[room])
            if not [k for k in parting_rooms(table, with_own(room, x, one), with_own(room, y, other)) if k != room]]


def distances(table, room, one):
    """How many links lead from a rest to each other one, if any do."""
    found = {one: 0}
    waiting = [one]
    for here in waiting:
        for there in rows(others(table, room)):
            if there not in found and plain_ties(table, room, here, there):
                found[there] = found[here] + 1
                waiting.append(there)
    return found


def plain_classes(table, room):
    return sorted({tuple(sorted(distances(table, room, rest))) for rest in rows(others(table, room))})


def plain_chain(table, room, one, other, thing):
    if thing.__class__ not in (list, tuple):
        return False
    here = one
    for link in thing:
        if link.__class__ is not tuple or len(link) != 3:
            return False
        right = [(x, y, there) for there in rows(others(table, room)) for x, y in plain_ties(table, room, here, there)]
        if not any(same(link, other_link) for other_link in right):
            return False
        here = link[2]
    return here == other


def with_notes_at(table, room, told):
    """The table in which the room receives what is told for each rest."""
    notes = []
    for sent, received in brings(table).items():
        note = told[sent[:room] + sent[room + 1:]]
        notes.append(received[:room] + (note,) + received[room + 1:])
    return Table(table.sends, table.takes, tuple(notes))


def same_but(table, other, room):
    """Whether the tables differ in the notes of the room at most."""
    return (table.sends, table.takes) == (other.sends, other.takes) and all(
        here[:room] + here[room + 1:] == there[:room] + there[room + 1:]
        for here, there in zip(table.notes, other.notes))


def plain_apart(table, room, one, other, thing):
    if not isinstance(thing, Table) or not same_but(table, thing, room) or not plain_fine(thing):
        return False
    lines = brings(thing)
    return lines[with_own(room, 0, one)][room] != lines[with_own(room, 0, other)][room]


class Rests(Case):
    def test_rests_and_ties(self):
        for table in TABLES:
            for room in range(len(table.sends)):
                every = rows(others(table, room))
                self.assertTrue(same(rests(table, room), every))
                for one, other in list(product(every, repeat=2))[:200]:
                    self.assertTrue(same(ties(table, room, one, other), plain_ties(table, room, one, other)))

    def test_by_hand(self):
        self.assertEqual(rests(table=ZERO_ALWAYS, room=0), [()])
        self.assertEqual(ties(table=ZERO_ALWAYS, room=0, one=(), other=()), [])
        self.assertEqual(rests(TURNING, 1), [(0, 0), (0, 1), (1, 0), (1, 1)])
        self.assertEqual(ties(table=TURNING, room=0, one=(0, 0), other=(1, 0)), [(0, 1), (1, 0)])
        self.assertEqual(ties(TURNING, 0, (0, 0), (1, 1)), [(1, 0)])
        self.assertEqual(ties(TURNING, 0, (1, 1), (0, 0)), [(0, 1)])
        self.assertEqual(ties(TURNING, 0, (1, 0), (1, 1)), [(0, 1), (1, 0)])
        for rest in [(0, 0), (1, 0), (1, 1), (0, 1)]:
            self.assertEqual(ties(TURNING, 0, (0, 1), rest), [])

    def test_in_fine_tables_a_tie_is_by_two_unlike_numbers(self):
        for table in fine_tables(2) + fine_of((2, 2), (2, 2)) + fine_of((3, 2), (2, 2)):
            for room in range(len(table.sends)):
                every = rows(others(table, room))
                self.assertTrue(all(x != y for one in every for other in every
                                    for x, y in ties(table, room, one, other)))
                if table.sends[room] == 1 or not any(plain_hears(table, room, k) for k in range(len(table.sends))):
                    self.assertEqual(classes(table, room), [(rest,) for rest in every])
                elif len(table.sends) == 2:
                    self.assertEqual(classes(table, room), [tuple(every)])

    def test_wrong_values(self):
        for table, room in [(ring_table((2, 3, 2)), 1), (ZERO_ALWAYS, 0)]:
            zeros = (0,) * (len(table.sends) - 1)
            wrong = {"table": (BadTable, wrong_tables(table)), "room": (BadRoom, wrong_numbers(len(table.sends))),
                     "one": (BadRest, wrong_rows(others(table, room))),
                     "other": (BadRest, wrong_rows(others(table, room)))}
            self.refuses(ties, {"table": table, "room": room, "one": zeros, "other": zeros}, wrong)
            self.refuses(chain, {"table": table, "room": room, "one": zeros, "other": zeros}, wrong)
            self.refuses(is_chain, {"table": table, "room": room, "one": zeros, "other": zeros, "thing": []}, wrong)
            two = {"table": wrong["table"], "room": wrong["room"]}
            self.refuses(rests, {"table": table, "room": room}, two)
            self.refuses(classes, {"table": table, "room": room}, two)


class Chains(Case):
    def test_chains_have_as_few_links_as_can_be(self):
        lengths = set()
        for table in TABLES:
            for room in range(len(table.sends)):
                for one in rows(others(table, room)):
                    ways = distances(table, room, one)
                    for other in rows(others(table, room)):
                        found = chain(table, room, one, other)
                        if other not in ways:
                            self.assertIsNone(found)
                            continue
                        self.assertIs(found.__class__, list)
                        self.assertEqual(len(found), ways[other])
                        self.assertTrue(plain_chain(table, room, one, other, found))
                        self.assertIs(is_chain(table, room, one, other, found), True)
                        lengths.add(len(found))
        self.assertGreater(len(lengths), 2)

    def test_by_hand(self):
        self.assertEqual(chain(table=TURNING, room=0, one=(0, 0), other=(0, 0)), [])
        self.assertEqual(chain(TURNING, 0, (0, 0), (1, 1)), [(1, 0, (1, 1))])
        self.assertIsNone(chain(TURNING, 0, (0, 0), (0, 1)))
        self.assertEqual(chain(ZERO_ALWAYS, 0, (), ()), [])
        self.assertIs(is_chain(table=TURNING, room=0, one=(0, 0), other=(1, 1), thing=[(0, 1, (1, 0)), (0, 1, (1, 1))]),
                      True)
        self.assertIs(is_chain(TURNING, 0, (0, 0), (1, 1), [(0, 1, (1, 1))]), False)
        self.assertIs(is_chain(TURNING, 0, (0, 0), (0, 0), [(0, 1, (1, 0)), (1, 0, (0, 0))]), True)
        self.assertIs(is_chain(TURNING, 0, (0, 0), (0, 1), []), False)

    def test_one_thing_otherwise(self):
        judged = {True: 0, False: 0}
        for table, room, one, other in [(TURNING, 0, (0, 0), (1, 1)), (RING, 1, (0,), (1,)), (RING, 0, (1,), (0,)),
                                        (spark_four(), 2, (0, 0, 0), (1, 1, 1)), (ring_table((3, 3)), 0, (2,), (0,)),
                                        (ZERO_ALWAYS, 0, (), ())]:
            found = chain(table, room, one, other) or []
            longer = found + [(x, y, there) for there in rows(others(table, room))
                              for x, y in plain_ties(table, room, other, there)][:1]
            for thing in (found, tuple(found), longer):
                for value in otherwise(thing) + [thing] + OTHER_KINDS + [deep_value()]:
                    right = plain_chain(table, room, one, other, value)
                    judged[right] += 1
                    self.assertIs(is_chain(table, room, one, other, value), right, value)
        self.assertTrue(judged[True] > 10 and judged[False] > 300, judged)


class Classes(Case):
    def test_classes(self):
        for table in TABLES:
            for room in range(len(table.sends)):
                self.assertTrue(same(classes(table, room), plain_classes(table, room)))

    def test_class_notes(self):
        for table in fine_tables(2) + fine_of((2, 2), (2, 2)):
            for room in range(len(table.sends)):
                found = class_notes(table, room)
                self.assertIs(found.__class__, tuple)
                told = {rest: note for lot, note in zip(plain_classes(table, room), found) for rest in lot}
                self.assertEqual(len(found), len(plain_classes(table, room)))
                # One note throughout a class, whatever the room sends itself.
                self.assertTrue(same(with_notes_at(table, room, told).notes, table.notes))

    def test_heart_any_notes_class_by_class_are_fine_and_no_others(self):
        for table in fine_of((2, 2), (2, 2)) + fine_of((2, 2), (1, 3)) + fine_of((1, 3), (2, 2)) + fine_of((3,), (2,)):
            for room in range(len(table.sends)):
                lots = plain_classes(table, room)
                made = []
                for notes in product(range(table.takes[room]), repeat=len(lots)):
                    made.append(with_notes_at(table, room, {r: n for lot, n in zip(lots, notes) for r in lot}).notes)
                right = [other.notes for other in every_table(table.sends, table.takes)
                         if same_but(table, other, room) and plain_fine(other)]
                self.assertEqual(sorted(made), right)
                self.assertEqual(len(right), table.takes[room] ** len(lots))

    def test_of_a_greater_table(self):
        for room in range(3):
            lots = plain_classes(TURNING, room)
            right = 0
            for notes in product(range(2), repeat=8):
                other = Table(TURNING.sends, TURNING.takes, tuple(
                    received[:room] + (note,) + received[room + 1:] for received, note in zip(TURNING.notes, notes)))
                right += plain_fine(other)
            self.assertEqual((len(lots), right), (2, 4))

    def test_by_hand(self):
        self.assertEqual(classes(table=TURNING, room=0), [((0, 0), (1, 0), (1, 1)), ((0, 1),)])
        self.assertEqual(class_notes(table=TURNING, room=0), (0, 1))
        self.assertEqual(classes(ZERO_ALWAYS, 0), [((),)])
        self.assertEqual(class_notes(ZERO_ALWAYS, 0), (0,))
        self.assertEqual(classes(RING, 0), [((0,), (1,))])

    def test_wrong_values(self):
        for table, room in [(TURNING, 1), (ZERO_ALWAYS, 0)]:
            self.refuses(class_notes, {"table": table, "room": room},
                         {"table": (BadTable, wrong_tables(table)), "room": (BadRoom, wrong_numbers(len(table.sends)))})
        self.refused(NotFine, class_notes, RING, 0)
        self.refused(BadRoom, class_notes, RING, 2)
        self.assertEqual(len(classes(RING, 1)), 1)

    def test_results_are_new(self):
        classes(TURNING, 0).clear()
        rests(TURNING, 0).clear()
        self.assertEqual((len(classes(TURNING, 0)), len(rests(TURNING, 0))), (2, 4))


class Apart(Case):
    def test_heart_a_chain_or_a_table_apart(self):
        seen = {True: 0, False: 0}
        tables = fine_tables(1) + fine_of((2, 2), (2, 2)) + fine_of((1, 3), (2, 3))[::9]
        for table in tables + [quiet_table((1, 2), (5, 3))]:
            for room, taken in enumerate(table.takes):
                every = rows(others(table, room))
                for one, other in list(product(every, repeat=2))[:40]:
                    if taken == 1:
                        self.refused(OneNote, apart, table, room, one, other)
                        continue
                    found = apart(table, room, one, other)
                    seen[found is None] += 1
                    self.assertEqual(found is None, chain(table, room, one, other) is not None)
                    if found is not None:
                        self.assertTrue(plain_apart(table, room, one, other, found))
                        self.assertIs(is_apart(table, room, one, other, found), True)
        self.assertTrue(min(seen.values()) > 100)

    def test_judged(self):
        for table in fine_of((2, 2), (2, 2)):
            for room in (0, 1):
                for one, other in [((0,), (1,)), ((1,), (0,)), ((0,), (0,))]:
                    for thing in every_table((2, 2), (2, 2)):
                        right = plain_apart(table, room, one, other, thing)
                        self.assertIs(is_apart(table, room, one, other, thing), right)
        good = apart(TURNING, 0, (0, 0), (0, 1))
        for value in OTHER_KINDS + [deep_value(), quiet_table((2, 2, 2), (2, 2, 3)), quiet_table((2, 2), (2, 2)), RING]:
            self.assertIs(is_apart(TURNING, 0, (0, 0), (0, 1), value), False)
        self.assertIs(is_apart(table=TURNING, room=0, one=(0, 0), other=(0, 1), thing=good), True)
        self.assertIs(is_apart(TURNING, 0, (0, 0), (0, 1), TURNING), True)
        self.assertIs(is_apart(TURNING, 1, (0, 0), (0, 1), good), False)
        self.assertIs(is_apart(TURNING, 0, (0, 0), (1, 1), TURNING), False)
        self.assertTrue(is_fine(good))
        # The same notes of the other room, but other sizes.
        quiet = quiet_table((2, 2), (2, 2))
        for value in [Table((1, 4), (2, 2), ((0, 0), (1, 0), (0, 0), (0, 0))),
                      Table((2, 2), (3, 2), ((0, 0), (1, 0), (0, 0), (1, 0))),
                      Table((2, 2), (2, 3), ((0, 0), (1, 0), (0, 0), (1, 0)))]:
            self.assertIs(is_apart(quiet, 0, (0,), (1,), value), False)
        self.assertIs(is_apart(quiet, 0, (0,), (1,), Table((2, 2), (2, 2), ((0, 0), (1, 0), (0, 0), (1, 0)))), True)
        wide = Table((2,), (3,), ((0,), (0,)))
        self.assertIs(is_apart(wide, 0, (), (), wide), False)

    def test_wrong_values(self):
        for table, room in [(TURNING, 1), (quiet_table((2, 3), (2, 2)), 0)]:
            zeros = (0,) * (len(table.sends) - 1)
            wrong = {"table": (BadTable, wrong_tables(table)), "room": (BadRoom, wrong_numbers(len(table.sends))),
                     "one": (BadRest, wrong_rows(others(table, room))),
                     "other": (BadRest, wrong_rows(others(table, room)))}
            self.refuses(apart, {"table": table, "room": room, "one": zeros, "other": zeros}, wrong)
            self.refuses(is_apart, {"table": table, "room": room, "one": zeros, "other": zeros, "thing": 0}, wrong)
        narrow = Table((2, 2), (1, 2), ((0, 0), (0, 1), (0, 0), (0, 1)))
        for function, more in [(apart, ()), (is_apart, (None,))]:
            self.refused(BadRest, function, RING, 0, (0,), (2,), *more)
            self.refused(NotFine, function, RING, 0, (0,), (0,), *more)
            self.refused(NotFine, function, narrow, 0, (0,), (0,), *more)
            self.refused(OneNote, function, quiet_table((2, 2), (1, 2)), 0, (0,), (0,), *more)
            self.refused(BadRest, function, quiet_table((2, 2), (1, 2)), 0, (0,), (2,), *more)
            self.refused(OneNote, function, quiet_table((2,), (1,)), 0, (), (), *more)
        self.assertIsNone(apart(ZERO_ALWAYS, 0, (), ()))
