"""[80] Tables beside each other, pieces, split and glued rooms; [81] teams; [82] houses in rooms."""

import random
from itertools import chain, combinations, product

from onestory.building import (beside, breaker, free_teams, glued, inside, is_breaker, is_free, nested, piece_tables,
                               pieces, replaced, split, two_doors)
from onestory.closings import closed
from onestory.errors import (BadHouse, BadInner, BadRest, BadRoom, BadRule, BadSplit, BadTable, BadTeam, HearsItself,
                             NotAlike, NotFine, OneRoom, TooGreat)
from onestory.stories import stories
from onestory.tables import Table, quiet_table, ring_table, turning_table
from tests.samples import (ZERO_ALWAYS, Case, brings, clocked_table, deep_value, every_rules, fine_of, fine_tables,
                           plain_fine, plain_hears, plain_stories, random_rules, random_table, rows, rules_of_room,
                           same, some_tables, spark_four, wandered_table, whole_families, wired_table, wrong_numbers,
                           wrong_rows, wrong_rule, wrong_tables)

RING = ring_table((2, 2))
TURNING = turning_table()
QUIET = quiet_table((2, 2), (2, 2))
ONE_ALWAYS = Table((2,), (2,), ((1,), (1,)))
# Room 0 receives 0; it tells which one of the two others hears the other one.
EITHER = Table((2, 2, 2), (2, 2, 2), tuple((0, 0, b) if a == 0 else (0, c, 0) for a, b, c in rows((2, 2, 2))))


def picked(rooms, row):
    return tuple(row[k] for k in rooms)


def others_of(table, team):
    return [k for k in range(len(table.sends)) if k not in team]


def every_team(table):
    rooms = range(len(table.sends))
    return sorted(chain.from_iterable(combinations(rooms, many) for many in range(1, len(table.sends))))


def every_rest(table, team):
    return rows(picked(others_of(table, team), table.sends))


def plain_pieces(table):
    lot = {k: {k} for k in range(len(table.sends))}
    for one, other in product(lot, repeat=2):
        if plain_hears(table, one, other):
            both = lot[one] | lot[other]
            for room in both:
                lot[room] = both
    return sorted({tuple(sorted(found)) for found in lot.values()})


def plain_inside(table, team, rest):
    others = others_of(table, team)
    return Table(picked(team, table.sends), picked(team, table.takes), tuple(
        picked(team, received) for sent, received in brings(table).items() if picked(others, sent) == rest))


def plain_replaced(table, team, rest, inner):
    lines = []
    for sent, received in brings(table).items():
        received = list(received)
        if picked(others_of(table, team), sent) == rest:
            for room, note in zip(team, brings(inner)[picked(team, sent)]):
                received[room] = note
        lines.append(tuple(received))
    return Table(table.sends, table.takes, tuple(lines))


def plain_is_free(table, team, rest):
    others = others_of(table, team)
    lines = [(sent, received) for sent, received in brings(table).items() if picked(others, sent) == rest]
    for one, here in lines:
        for other, there in lines:
            unlike = [k for k in range(len(one)) if one[k] != other[k]]
            if len(unlike) == 1 and table.takes[unlike[0]] > 1:
                if any(here[k] != there[k] for k in others if table.sends[k] > 1):
                    return False
    return True


def plain_nested(table, room, house):
    """The sendings and deliveries told as in the document."""
    others = [k for k in range(len(table.sends)) if k != room]
    sends = picked(others, table.sends) + house.sends[1:-1]
    takes = picked(others, table.takes) + house.takes[1:-1]
    lines = []
    for sent in rows(sends):
        rest, within = sent[:len(others)], sent[len(others):]
        at_rest = [received for other, received in brings(table).items() if picked(others, other) == rest]
        note = at_rest[0][room]
        received = brings(house)[(note,) + within + (0,)]
        whole = rest[:room] + (received[-1],) + rest[room:]
        lines.append(picked(others, brings(table)[whole]) + received[1:-1])
    return Table(sends, takes, tuple(lines))


def house_sizes(table, room, inner_sends=(), inner_takes=()):
    return ((table.takes[room],) + inner_sends + (1,), (1,) + inner_takes + (table.sends[room],))


def fine_houses(draw, table, room):
    """Some fine houses for the room: all of two doors, and some with rooms within."""
    found = [Table(*house_sizes(table, room), tuple((0, number) for number in rule))
             for rule in rules_of_room(table, room)[:8]]
    for sends, takes in [((2,), (2,)), ((2, 2), (2, 1)), ((1,), (2,))]:
        sizes = house_sizes(table, room, sends, takes)
        if len(rows(sizes[0])) * len(table.notes) // table.sends[room] <= 64:
            found += [wandered_table(draw, clocked_table(draw, *sizes), 6) for _ in range(3)]
    return found


def are_one_table(*tables):
    return all(table == tables[0] for table in tables)


class Beside(Case):
    def test_beside(self):
        draw = random.Random(800)
        for _ in range(40):
            one = random_table(draw, *draw.choice([((2,), (2,)), ((2, 2), (2, 1)), ((1, 3), (2, 2))]))
            other = random_table(draw, *draw.choice([((2,), (3,)), ((2, 2), (1, 2)), ((3,), (2,))]))
            found = beside(one, other)
            self.assertEqual((found.sends, found.takes), (one.sends + other.sends, one.takes + other.takes))
            many = len(one.sends)
            for sent, received in brings(found).items():
                self.assertEqual(received, brings(one)[sent[:many]] + brings(other)[sent[many:]])
            self.assertEqual(plain_fine(found), plain_fine(one) and plain_fine(other))
        for one in [QUIET, RING, ZERO_ALWAYS, ring_table((2,))]:
            for other in [ONE_ALWAYS, RING, ring_table((2,))]:
                self.assertEqual(plain_fine(beside(first=one, second=other)), plain_fine(one) and plain_fine(other))

    def test_too_great(self):
        six = quiet_table((2,) * 3, (2,) * 3)
        self.assertEqual(beside(six, six), quiet_table((2,) * 6, (2,) * 6))
        self.assertEqual(beside(quiet_table((8,), (64,)), quiet_table((8,), (64,))), quiet_table((8, 8), (64, 64)))
        for one, other in [(quiet_table((1,) * 3, (1,) * 3), quiet_table((1,) * 4, (1,) * 4)),
                           (quiet_table((8,), (1,)), quiet_table((9,), (1,))),
                           (quiet_table((64,), (1,)), quiet_table((64,), (1,))),
                           (quiet_table((1,) * 6, (1,) * 6),) * 2]:
            self.refused(TooGreat, beside, one, other)
            self.refused(BadTable, beside, one, None)
        self.refuses(beside, {"first": RING, "second": QUIET},
                     {"first": (BadTable, wrong_tables(RING)), "second": (BadTable, wrong_tables(RING))})


class Pieces(Case):
    def tables(self):
        draw = random.Random(801)
        found = some_tables(1) + whole_families()[::9]
        for wires in [((), (0,), (3,), ()), ((1,), (0,), (), (2,)), ((), (), (), ()), ((2,), (3,), (0,), (1,)),
                      ((0,), (2, 1), (), (3,)), ((1, 2, 3), (), (), ())]:
            for _ in range(3):
                found.append(wired_table(draw, (2, 2, 2, 2), (2, 2, 2, 2), wires))
        return found

    def test_pieces_and_their_tables(self):
        for table in self.tables():
            right = plain_pieces(table)
            self.assertTrue(same(pieces(table), [list(piece) for piece in right]))
            found = piece_tables(table)
            self.assertIs(found.__class__, list)
            for piece, part in zip(right, found):
                for rest in every_rest(table, piece):
                    self.assertEqual(part, plain_inside(table, piece, rest))
            self.assertEqual(len(found), len(right))
            self.assertEqual(plain_fine(table), all(plain_fine(part) for part in found))
        self.assertEqual(pieces(table=beside(RING, ZERO_ALWAYS)), [[0, 1], [2]])
        self.assertEqual(piece_tables(table=beside(RING, ONE_ALWAYS)), [RING, ONE_ALWAYS])
        self.assertEqual(pieces(beside(beside(ONE_ALWAYS, RING), TURNING)), [[0], [1, 2], [3, 4, 5]])
        self.assertEqual(pieces(ring_table((2,) * 6)), [[0, 1, 2, 3, 4, 5]])

    def test_heart_divisions_are_made_of_whole_pieces(self):
        for table in self.tables():
            for lot in every_team(table):
                # A division into this lot and the others fits if nobody hears across.
                across = any(plain_hears(table, a, b) for a in range(len(table.sends)) for b in range(len(table.sends))
                             if (a in lot) != (b in lot))
                whole = all(set(piece) <= set(lot) or not set(piece) & set(lot) for piece in pieces(table))
                self.assertEqual(not across, whole)

    def test_heart_stories_multiply(self):
        draw = random.Random(802)
        for table in self.tables():
            for _ in range(3):
                rules = random_rules(draw, table)
                many = 1
                for piece, part in zip(pieces(table), piece_tables(table)):
                    many *= len(stories(part, picked(piece, rules)))
                self.assertEqual(len(plain_stories(table, rules)), many)

    def test_wrong_values(self):
        for function in (pieces, piece_tables):
            self.refuses(function, {"table": RING}, {"table": (BadTable, wrong_tables(RING))})


class Split(Case):
    def test_split_and_glued_again(self):
        for table in some_tables(1) + whole_families()[::5]:
            for room, size in enumerate(table.sends):
                for one in [n for n in range(1, size + 1) if size % n == 0]:
                    other = size // one
                    found = split(table, room, one, other)
                    sends = table.sends[:room] + (one, other) + table.sends[room + 1:]
                    self.assertEqual((found.sends, len(found.takes)), (sends, len(sends)))
                    for sent, received in brings(found).items():
                        number = sent[room] * other + sent[room + 1]
                        right = brings(table)[sent[:room] + (number,) + sent[room + 2:]]
                        self.assertEqual(received, right[:room] + (right[room],) + right[room:])
                    self.assertEqual(found.takes, table.takes[:room + 1] + table.takes[room:])
                    self.assertEqual(plain_fine(found), plain_fine(table))
                    self.assertEqual(glued(found, room), table)
        self.assertEqual(split(table=ZERO_ALWAYS, room=0, one=1, other=2), quiet_table((1, 2), (2, 2)))

    def test_glued(self):
        self.assertEqual(glued(table=quiet_table((2, 3, 2), (2, 2, 1)), room=0), quiet_table((6, 2), (2, 1)))
        draw = random.Random(803)
        fine = []
        for _ in range(40):
            one = random_table(draw, (2, 2, 2), (1, 2, 2))
            alike = Table(one.sends, one.takes, tuple((a, b, b) for a, b, _ in one.notes))
            found = glued(alike, 1)
            self.assertEqual(split(found, 1, 2, 2), alike)
            self.assertEqual(plain_fine(found), plain_fine(alike))
            fine.append(plain_fine(found))
        self.assertEqual(set(fine), {True, False})
        self.refused(NotAlike, glued, RING, 0)
        self.refused(NotAlike, glued, quiet_table((2, 2), (1, 2)), 0)
        self.refused(NotAlike, glued, Table((2, 2), (2, 2), ((0, 0), (1, 1), (0, 0), (1, 0))), 0)
        self.assertEqual(glued(Table((2, 2), (2, 2), ((0, 0), (1, 1), (0, 0), (1, 1))), 0),
                         Table((4,), (2,), ((0,), (1,), (0,), (1,))))
        self.refuses(glued, {"table": QUIET, "room": 0},
                     {"table": (BadTable, wrong_tables(RING)), "room": (BadRoom, wrong_numbers(1))})
        self.refused(BadRoom, glued, ZERO_ALWAYS, 0)
        self.refused(BadRoom, glued, RING, 1)

    def test_split_refuses(self):
        table = quiet_table((6, 1), (2, 1))
        numbers = [None, True, 0, -1, 4, 5, 7, -2, "2", (2,), 999999999, deep_value()]
        self.refuses(split, {"table": table, "room": 0, "one": 3, "other": 2},
                     {"table": (BadTable, wrong_tables(RING)), "room": (BadRoom, wrong_numbers(2)),
                      "one": (BadSplit, numbers + [1, 2, 6, -3]), "other": (BadSplit, numbers + [1, 3, 6, -2])})
        self.refused(BadSplit, split, table, 0, -3, -2)
        self.refused(BadSplit, split, table, 1, True, 1)
        self.refused(BadSplit, split, table, 1, 1, True)
        six = quiet_table((2,) * 6, (1,) * 6)
        self.refused(TooGreat, split, six, 0, 1, 2)
        self.refused(BadSplit, split, six, 0, 2, 2)
        self.assertEqual(len(split(quiet_table((1,) * 5, (1,) * 5), 4, 1, 1).sends), 6)
        self.assertEqual(split(quiet_table((64,), (64,)), 0, 8, 8), quiet_table((8, 8), (64, 64)))


class Teams(Case):
    def test_inside_and_replaced(self):
        draw = random.Random(810)
        for table in some_tables(1):
            for team in every_team(table):
                for rest in every_rest(table, team)[:5]:
                    found = inside(table, team, rest)
                    self.assertEqual(found, plain_inside(table, team, rest))
                    self.assertEqual(replaced(table, team, rest, found), table)
                    inner = random_table(draw, found.sends, found.takes)
                    other = replaced(table, team, rest, inner)
                    self.assertEqual(other, plain_replaced(table, team, rest, inner))
                    self.assertEqual(inside(other, team, rest), inner)
        self.assertEqual(inside(table=EITHER, team=(1, 2), rest=(1,)),
                         Table((2, 2), (2, 2), ((0, 0), (1, 0), (0, 0), (1, 0))))
        self.assertEqual(inside(table=EITHER, team=(0, 2), rest=(1,)),
                         Table((2, 2), (2, 2), ((0, 1), (0, 1), (0, 0), (0, 0))))
        self.assertEqual(replaced(table=RING, team=(0,), rest=(0,), inner=ONE_ALWAYS),
                         Table((2, 2), (2, 2), ((1, 0), (1, 0), (1, 1), (1, 1))))

    def test_free(self):
        seen = set()
        for table in some_tables(1) + [EITHER] + whole_families()[::7]:
            right = []
            for team in every_team(table):
                for rest in every_rest(table, team):
                    free = plain_is_free(table, team, rest)
                    seen.add(free)
                    self.assertIs(is_free(table, team, rest), free)
                    right += [(team, rest)] if free else []
            self.assertTrue(same(free_teams(table), right))
        self.assertEqual(seen, {True, False})
        self.assertEqual(free_teams(table=ZERO_ALWAYS), [])

    def test_by_hand(self):
        self.assertTrue(plain_fine(EITHER))
        self.assertIs(is_free(table=EITHER, team=(1, 2), rest=(0,)), True)
        self.assertIs(is_free(EITHER, (1, 2), (1,)), True)
        self.assertIs(is_free(EITHER, (0, 1), (0,)), False)
        inner = Table((2, 2), (2, 2), ((0, 1),) * 4)
        self.assertIs(is_breaker(EITHER, (0, 1), (0,), inner), True)
        found = brings(replaced(EITHER, (0, 1), (0,), inner))
        self.assertEqual((found[0, 0, 0], found[0, 1, 1]), ((0, 1, 0), (0, 0, 1)))
        self.assertIsNone(breaker(table=EITHER, team=(1, 2), rest=(0,)))

    def test_heart_free_or_a_breaker(self):
        tables = fine_tables(1) + [EITHER, spark_four()] + fine_of((2, 2), (2, 2)) + fine_of((2, 1, 2), (2, 2, 2))[::9]
        seen = set()
        for table in tables:
            for team in every_team(table):
                for rest in every_rest(table, team)[:4]:
                    found = breaker(table, team, rest)
                    self.assertEqual(found is None, plain_is_free(table, team, rest))
                    inner_sizes = (picked(team, table.sends), picked(team, table.takes))
                    if found is not None:
                        self.assertTrue(plain_fine(found))
                        self.assertEqual((found.sends, found.takes), inner_sizes)
                        self.assertFalse(plain_fine(plain_replaced(table, team, rest, found)))
                        self.assertIs(is_breaker(table, team, rest, found), True)
                    if len(rows(inner_sizes[0])) <= 4 and all(taken <= 2 for taken in inner_sizes[1]):
                        for inner in fine_of(*inner_sizes):
                            broken = not plain_fine(plain_replaced(table, team, rest, inner))
                            seen.add((found is None, broken))
                            self.assertIs(is_breaker(table, team, rest, inner), broken)
        self.assertEqual(seen, {(True, False), (False, False), (False, True)})

    def test_replaced_is_never_fine_for_an_inner_that_is_not(self):
        draw = random.Random(811)
        for table in fine_tables(1):
            for team, rest in free_teams(table)[:6]:
                sizes = (picked(team, table.sends), picked(team, table.takes))
                for _ in range(4):
                    inner = random_table(draw, *sizes)
                    self.assertEqual(plain_fine(replaced(table, team, rest, inner)), plain_fine(inner))

    def test_is_breaker(self):
        right = breaker(EITHER, (0, 1), (0,))
        self.judges(is_breaker, (EITHER, (0, 1), (0,)), [right],
                    [QUIET, RING, ring_table((2, 2)), quiet_table((2, 2), (2, 3)), TURNING, (right,), ZERO_ALWAYS])
        self.judges(is_breaker, (EITHER, (1, 2), (0,)), [], [right, RING, QUIET])

    def test_wrong_values(self):
        teams = [None, True, 0, (), [0], [0, 1], (1, 0), (0, 0), (0, 1, 2), (3,), (-1,), (True,), (0, None), {0: 0},
                 ((0,),), (0, 3), deep_value()]
        wrong = {"table": (BadTable, wrong_tables(RING)), "team": (BadTeam, teams),
                 "rest": (BadRest, wrong_rows((2,)))}
        good = {"table": TURNING, "team": (0, 1), "rest": (1,)}
        for function in (inside, is_free, breaker):
            self.refuses(function, good, wrong)
        self.refuses(is_breaker, {**good, "thing": None}, wrong)
        inners = [None, True, (), [QUIET], ZERO_ALWAYS, quiet_table((2, 2), (2, 1)), quiet_table((2, 1), (2, 2)),
                  TURNING, deep_value()]
        self.refuses(replaced, {**good, "inner": RING}, {**wrong, "inner": (BadInner, inners)})
        self.refuses(free_teams, {"table": RING}, {"table": (BadTable, wrong_tables(RING))})
        for function, more in [(inside, ()), (is_free, ()), (breaker, ()), (is_breaker, (None,)), (replaced, (None,))]:
            self.refused(BadTeam, function, ZERO_ALWAYS, (0,), (), *more)
        for function, more in [(breaker, ()), (is_breaker, (QUIET,))]:
            self.refused(NotFine, function, RING, (0,), (0,), *more)
            self.refused(BadRest, function, RING, (0,), (2,), *more)
            self.refused(BadTeam, function, RING, (2,), None, *more)
        self.assertIs(is_free(RING, (0,), (0,)), False)


class Houses(Case):
    def test_two_doors_close_the_room(self):
        for table in some_tables(1):
            for room in range(len(table.sends)):
                for rule in rules_of_room(table, room)[::3][:6]:
                    house = two_doors(table, room, rule)
                    self.assertEqual((house.sends, house.takes), house_sizes(table, room))
                    self.assertEqual(house.notes, tuple((0, number) for number in rule))
                    if len(table.sends) == 1:
                        self.refused(OneRoom, nested, table, room, house)
                    elif plain_hears(table, room, room):
                        self.assertEqual(self.refused(HearsItself, nested, table, room, house).room, room)
                    else:
                        self.assertTrue(are_one_table(nested(table, room, house), closed(table, room, rule),
                                                      plain_nested(table, room, house)))
        self.assertEqual(two_doors(table=RING, room=1, rule=(1, 0)), Table((2, 1), (1, 2), ((0, 1), (0, 0))))
        self.refuses(two_doors, {"table": RING, "room": 1, "rule": (0, 1)},
                     {"table": (BadTable, wrong_tables(RING)), "room": (BadRoom, wrong_numbers(2)),
                      "rule": (BadRule, wrong_rule(RING, 1))})

    def test_nested(self):
        draw = random.Random(820)
        for table in some_tables(1):
            for room in range(len(table.sends)):
                if plain_hears(table, room, room):
                    continue
                for house in fine_houses(draw, table, room) + [
                        random_table(draw, *house_sizes(table, room, (2,), (2,)))]:
                    if len(table.sends) + len(house.sends) - 3 in range(1, 7) and len(table.notes) * len(
                            house.notes) // (table.sends[room] * table.takes[room]) <= 64:
                        self.assertEqual(nested(table=table, room=room, house=house), plain_nested(table, room, house))

    def test_heart_fine_with_every_fine_house(self):
        draw = random.Random(821)
        seen = set()
        for table in some_tables(2) + fine_of((2, 2), (2, 2)):
            if len(table.sends) == 1 or len(table.sends) > 4:
                continue
            fine = plain_fine(table)
            for room in range(len(table.sends)):
                if plain_hears(table, room, room):
                    self.assertFalse(fine)
                    continue
                houses = [Table(*house_sizes(table, room), tuple((0, number) for number in rule))
                          for rule in rules_of_room(table, room)] + fine_houses(draw, table, room)
                right = all(plain_fine(nested(table, room, house)) for house in houses)
                seen.add((fine, right))
                self.assertEqual(right, fine)
        self.assertEqual(seen, {(True, True), (False, False)})

    def test_heart_fine_exactly_if_the_house_is(self):
        draw = random.Random(822)
        seen = set()
        for table in [TURNING, EITHER] + fine_of((2, 2), (2, 2)):
            for room, taken in enumerate(table.takes):
                if {received[room] for received in table.notes} != set(range(taken)):
                    continue
                for sends, takes in [((2,), (2,)), ((2, 2), (2, 2))]:
                    sizes = house_sizes(table, room, sends, takes)
                    for house in [random_table(draw, *sizes) for _ in range(3)] + [clocked_table(draw, *sizes)]:
                        seen.add(plain_fine(house))
                        self.assertEqual(plain_fine(nested(table, room, house)), plain_fine(house))
        self.assertEqual(seen, {True, False})

    def test_one_room_with_rooms_in_its_house(self):
        house = Table((2, 2, 1), (1, 2, 2), tuple((0, door, sent) for door, sent, _ in rows((2, 2, 1))))
        self.assertEqual(nested(ZERO_ALWAYS, 0, house), ZERO_ALWAYS)
        self.assertEqual(nested(ONE_ALWAYS, 0, house), ONE_ALWAYS)
        self.assertEqual(self.refused(HearsItself, nested, ring_table((2,)), 0, house).room, 0)

    def test_wrong_values(self):
        good = Table((2, 1), (1, 2), ((0, 1), (0, 0)))
        houses = [None, True, (), [good], QUIET, RING, TURNING, Table((2,), (1,), ((0,), (0,))),
                  Table((2, 1), (2, 2), ((0, 1), (0, 0))), quiet_table((1, 1), (1, 2)), quiet_table((3, 1), (1, 2)),
                  quiet_table((2, 2), (1, 2)), quiet_table((2, 1), (1, 1)), quiet_table((2, 1), (1, 3)),
                  quiet_table((1, 2), (2, 1)), deep_value()]
        self.refuses(nested, {"table": QUIET, "room": 1, "house": good},
                     {"table": (BadTable, wrong_tables(RING)), "room": (BadRoom, wrong_numbers(2)),
                      "house": (BadHouse, houses)})
        self.refused(OneRoom, nested, ring_table((2,)), 0, good)
        self.refused(BadHouse, nested, ring_table((2,)), 0, QUIET)
        self.refused(BadHouse, nested, quiet_table((2, 3), (2, 1)), 1, good)
        self.refused(BadHouse, nested, quiet_table((1, 2), (1, 2)), 0, quiet_table((1,), (1,)))

    def test_too_great(self):
        table = quiet_table((2,) * 5, (2,) * 5)
        for many, error in [(1, None), (2, None), (3, TooGreat)]:
            house = quiet_table((2,) + (1,) * many + (1,), (1,) * (many + 1) + (2,))
            if error is None:
                self.assertEqual(len(nested(table, 0, house).sends), 4 + many)
            else:
                self.refused(error, nested, table, 0, house)
        for size, error in [(4, None), (5, TooGreat)]:
            house = quiet_table((2, size, 1), (1, 1, 2))
            if error is None:
                self.assertEqual(len(nested(table, 0, house).notes), 64)
            else:
                self.refused(error, nested, table, 0, house)
        ring = ring_table((2,) * 5)
        notes = tuple(received[:4] + sent[4:] for sent, received in brings(ring).items())
        hearing = Table(ring.sends, ring.takes, notes)
        self.assertEqual(self.refused(HearsItself, nested, hearing, 4, quiet_table((2, 9, 1), (1, 1, 2))).room, 4)
        self.assertEqual(len(every_rules(ZERO_ALWAYS)), 4)
