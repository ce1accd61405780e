"""[72] Layers, rooms put into them, wishes, all fine tables counted and listed, kinds."""

import random
from itertools import permutations, product

from onestory.classes import class_notes
from onestory.closings import held
from onestory.errors import (BadLayers, BadNotes, BadPlace, BadRoom, BadSends, BadTable, BadTake, BadTakes, BadWishes,
                             NotFine, OneRoom, TooMany)
from onestory.listing import (fine_count, fine_tables, is_wish_chain, is_wished, kinds, layer_classes, layers_of,
                              room_in, wish_chain, wished)
from onestory.renamings import first_like, keeping_count
from onestory.tables import Table, quiet_table, ring_table, turning_table
from tests.samples import (OTHER_KINDS, ZERO_ALWAYS, Case, brings, clocked_table, deep_value, fine_of, otherwise,
                           plain_fine, random_table, rows, same, some_tables, wandered_table, wrong_numbers,
                           wrong_rows, wrong_tables)

RING = ring_table((2, 2))
TURNING = turning_table()
ONE_ALWAYS = Table((2,), (2,), ((1,), (1,)))
QUIET = quiet_table((2, 2), (2, 2))
LED = Table((2, 2), (2, 2), ((0, 0), (0, 0), (0, 1), (0, 1)))
SMALL = [((1,), (3,)), ((2,), (2,)), ((3,), (2,)), ((2, 2), (2, 2)), ((2, 3), (2, 1)), ((1, 2), (2, 2)),
         ((2, 2), (1, 3)), ((2, 1), (3, 2)), ((1, 1, 2), (2, 1, 2)), ((2, 2, 2), (1, 1, 2)), ((2, 1, 2), (2, 2, 2))]


def less(row, place):
    return row[:place] + row[place + 1:]


def plain_tied(layers, one, other):
    """The pairs by which two sendings of the layers are tied, straight from the document."""
    return [(x, y) for x, here in enumerate(layers) for y, there in enumerate(layers) if one != other and not any(
        one[k] != other[k] and brings(here)[one][k] == brings(there)[other][k] for k in range(len(one)))]


def plain_classes(layers):
    every = rows(layers[0].sends)
    lot = {sent: {sent} for sent in every}
    for one in every:
        for other in every:
            if plain_tied(layers, one, other) and lot[one] is not lot[other]:
                both = lot[one] | lot[other]
                for sent in both:
                    lot[sent] = both
    return sorted({tuple(sorted(found)) for found in lot.values()})


def plain_room_in(layers, place, take, notes):
    told = {sent: note for lot, note in zip(plain_classes(layers), notes) for sent in lot}
    sends = layers[0].sends[:place] + (len(layers),) + layers[0].sends[place:]
    takes = layers[0].takes[:place] + (take,) + layers[0].takes[place:]
    lines = []
    for sent in rows(sends):
        received = brings(layers[sent[place]])[less(sent, place)]
        lines.append(received[:place] + (told[less(sent, place)],) + received[place:])
    return Table(sends, takes, tuple(lines))


def plain_layers(table, room):
    return tuple(Table(less(table.sends, room), less(table.takes, room), tuple(
        less(received, room) for sent, received in brings(table).items() if sent[room] == number))
        for number in range(table.sends[room]))


def plain_is_wished(layers, place, take, wishes, thing):
    if not isinstance(thing, Table) or place >= len(thing.sends) or len(thing.sends) == 1 or not plain_fine(thing):
        return False
    if thing.takes[place] != take or thing.sends[place] != len(layers) or plain_layers(thing, place) != tuple(layers):
        return False
    return all(received[place] == wishes.get(less(sent, place), received[place])
               for sent, received in brings(thing).items())


def plain_is_wish_chain(layers, take, wishes, thing):
    if thing.__class__ is not tuple or len(thing) != 2 or thing[1].__class__ not in (list, tuple):
        return False
    if not any(same(thing[0], key) for key in wishes):
        return False
    here = thing[0]
    for link in thing[1]:
        after = [there for there in rows(layers[0].sends) for pair in plain_tied(layers, here, there)
                 if same(link, pair + (there,))]
        if not after:
            return False
        here = after[0]
    return here in wishes and wishes[here] != wishes[thing[0]]


def some_layers(many, seed=720):
    """Tuples of fine layers, with a place for a room and what it can receive."""
    draw = random.Random(seed)
    found = [((ZERO_ALWAYS, ONE_ALWAYS), 1, 2), ((ZERO_ALWAYS, ZERO_ALWAYS), 1, 2), ((TURNING,), 0, 3),
             ((TURNING, TURNING), 2, 2), (plain_layers(TURNING, 1), 1, 2), ((quiet_table((1,), (1,)),), 0, 1)]
    for sends, takes, layers in [((2,), (2,), 3), ((3,), (2,), 2), ((2, 2), (2, 2), 2), ((2, 2), (2, 2), 3),
                                 ((2, 1), (2, 3), 2), ((2, 2, 2), (2, 2, 2), 2), ((3, 2), (2, 2), 2)]:
        for _ in range(many):
            tables = tuple(wandered_table(draw, clocked_table(draw, sends, takes), 6) for _ in range(layers))
            found.append((tables, draw.randrange(len(sends) + 1), draw.choice((1, 2, 3))))
    return found


def random_wishes(draw, layers, take):
    every = rows(layers[0].sends)
    return {sent: draw.randrange(take) for sent in draw.sample(every, draw.randrange(len(every) + 1))}


WRONG_LAYERS = [None, True, 0, (), [ZERO_ALWAYS], [ZERO_ALWAYS, ONE_ALWAYS], (ZERO_ALWAYS, None), (None,), ((),),
                (ZERO_ALWAYS, QUIET), (QUIET, quiet_table((2, 2), (2, 3))), (quiet_table((2, 1), (1, 1)), quiet_table(
                    (1, 2), (1, 1))), (quiet_table((1,) * 6, (1,) * 6),), (ZERO_ALWAYS,) * 33, (TURNING,) * 9,
                (quiet_table((64,), (1,)),) * 2, {0: ZERO_ALWAYS}, ZERO_ALWAYS, deep_value()]
WRONG_TAKES = [None, True, 0, -1, 65, "2", (2,), 999999999, deep_value()]
WRONG_WISHES = [None, True, 0, (), [], [((0,), 0)], {(0,): 2}, {(0,): -1}, {(0,): True}, {(0,): None}, {(2,): 0},
                {(False,): 0}, {0: 0}, {(): 0}, {(0, 0): 0}, {None: 0}, {(0,): (0,)}, {(0,): 0, (2,): 0}, deep_value()]


class Layers(Case):
    def test_layers_of(self):
        for table in some_tables(1):
            for room in range(len(table.sends)):
                if len(table.sends) == 1:
                    self.refused(OneRoom, layers_of, table, room)
                else:
                    found = layers_of(table=table, room=room)
                    self.assertIs(found.__class__, tuple)
                    self.assertEqual(found, plain_layers(table, room))
                    self.assertEqual(found, tuple(held(table, room, sent) for sent in range(table.sends[room])))
        self.refuses(layers_of, {"table": RING, "room": 1},
                     {"table": (BadTable, wrong_tables(RING)), "room": (BadRoom, wrong_numbers(2))})
        self.refused(BadRoom, layers_of, ZERO_ALWAYS, 1)

    def test_layer_classes(self):
        for layers, _, _ in some_layers(3):
            found = layer_classes(layers)
            self.assertIs(found.__class__, list)
            self.assertTrue(same(found, plain_classes(layers)))
        self.assertEqual(layer_classes(layers=(ZERO_ALWAYS, ZERO_ALWAYS)), [((0,),), ((1,),)])
        self.assertEqual(layer_classes((ZERO_ALWAYS, ONE_ALWAYS)), [((0,), (1,))])
        self.assertEqual(layer_classes((TURNING,)), [(sent,) for sent in rows((2, 2, 2))])
        self.refuses(layer_classes, {"layers": (QUIET,)}, {"layers": (BadLayers, WRONG_LAYERS)})
        for layers in [(RING,), (QUIET, RING), (RING, QUIET)]:
            self.refused(NotFine, layer_classes, layers)
        self.refused(BadLayers, layer_classes, (RING, ZERO_ALWAYS))
        self.assertEqual(layer_classes((quiet_table((1,) * 5, (1,) * 5),) * 64), [((0,) * 5,)])
        self.assertEqual(len(layer_classes((quiet_table((64,), (2,)),))), 64)

    def test_room_in(self):
        draw = random.Random(721)
        for layers, place, take in some_layers(3):
            notes = tuple(draw.randrange(take) for _ in plain_classes(layers))
            found = room_in(layers, place, take, notes)
            self.assertEqual(found, plain_room_in(layers, place, take, notes))
            self.assertTrue(plain_fine(found))
            self.assertEqual(layers_of(found, place), layers)
            self.assertEqual(class_notes(found, place), notes)
        self.assertEqual(room_in(layers=(ZERO_ALWAYS,) * 2, place=0, take=3, notes=(2, 0)),
                         Table((2, 2), (3, 2), ((2, 0), (0, 0), (2, 0), (0, 0))))

    def test_heart_each_fine_table_is_made_of_its_layers(self):
        tables = [table for table in some_tables(2) if plain_fine(table) and len(table.sends) > 1]
        for sends, takes in SMALL:
            tables += [table for table in fine_of(sends, takes) if len(sends) > 1]
        for table in tables[::2]:
            for room, taken in enumerate(table.takes):
                layers = layers_of(table, room)
                self.assertTrue(all(plain_fine(layer) for layer in layers))
                self.assertEqual(room_in(layers, room, taken, class_notes(table, room)), table)

    def test_room_in_refuses(self):
        self.refuses(room_in, {"layers": (ZERO_ALWAYS, ZERO_ALWAYS), "place": 0, "take": 2, "notes": (0, 1)},
                     {"layers": (BadLayers, WRONG_LAYERS), "place": (BadPlace, wrong_numbers(2)),
                      "take": (BadTake, WRONG_TAKES), "notes": (BadNotes, wrong_rows((2, 2)))})
        self.refused(BadNotes, room_in, (ZERO_ALWAYS, ONE_ALWAYS), 0, 2, (0, 1))
        self.refused(NotFine, room_in, (RING,), 0, 2, (0, 0))
        self.refused(BadNotes, room_in, (RING,), 0, 2, None)
        self.refused(BadPlace, room_in, (RING,), 3, 2, None)
        self.assertEqual(room_in((QUIET,), 2, 64, (63,) * 4).takes, (2, 2, 64))


class Wishes(Case):
    def test_heart_a_table_or_a_chain(self):
        draw = random.Random(722)
        seen = set()
        for layers, place, take in some_layers(4):
            for _ in range(4):
                wishes = random_wishes(draw, layers, take)
                back = dict(sorted(wishes.items(), reverse=True))
                lots = plain_classes(layers)
                right = all(len({wishes[sent] for sent in lot if sent in wishes}) < 2 for lot in lots)
                seen.add(right)
                table = wished(layers, place, take, wishes)
                chain = wish_chain(layers, take, wishes)
                self.assertEqual((table is None, chain is None), (not right, right))
                self.assertEqual((table, chain), (wished(layers, place, take, back), wish_chain(layers, take, back)))
                if right:
                    self.assertTrue(plain_is_wished(layers, place, take, wishes, table))
                    self.assertIs(is_wished(layers, place, take, wishes, table), True)
                else:
                    self.assertTrue(plain_is_wish_chain(layers, take, wishes, chain))
                    self.assertIs(is_wish_chain(layers, take, wishes, chain), True)
        self.assertEqual(seen, {True, False})

    def test_heart_against_all_fine_tables(self):
        draw = random.Random(723)
        every = {sends: fine_of(sends, takes) for sends, takes in
                 [((2, 2), (2, 2)), ((2, 1, 2), (2, 2, 2)), ((2, 2, 2), (1, 1, 2))]}
        for sends, tables in every.items():
            for _ in range(40):
                table = draw.choice(tables)
                place = draw.randrange(len(sends))
                layers = plain_layers(table, place)
                wishes = random_wishes(draw, layers, table.takes[place])
                fitting = [other for other in tables
                           if plain_is_wished(layers, place, table.takes[place], wishes, other)]
                found = wished(layers, place, table.takes[place], wishes)
                self.assertEqual(found is None, fitting == [])
                for other in tables[:30] + fitting:
                    self.assertIs(is_wished(layers, place, table.takes[place], wishes, other), other in fitting)

    def test_is_wished(self):
        layers = plain_layers(TURNING, 1)
        wishes = {(0, 0): 0, (1, 0): 1}
        right = TURNING
        wrong = [quiet_table((2, 2, 2), (2, 2, 2)), RING, Table((2, 2, 2), (2, 3, 2), TURNING.notes)]
        wrong += [Table(TURNING.sends, TURNING.takes, TURNING.notes[:at] + (tuple(received),) + TURNING.notes[at + 1:])
                  for at in range(8) for received in rows((2, 2, 2)) if received != TURNING.notes[at]]
        self.assertTrue(plain_is_wished(layers, 1, 2, wishes, right))
        self.judges(is_wished, (layers, 1, 2, wishes), [right], wrong)
        self.judges(is_wished, (layers, 0, 2, wishes), [], [right])
        self.judges(is_wished, (layers, 1, 3, wishes), [], [right])
        self.judges(is_wished, (layers, 1, 2, {(0, 0): 1}), [], [right])
        self.judges(is_wished, ((ZERO_ALWAYS,), 1, 2, {}), [Table((2, 1), (2, 2), ((0, 1), (0, 0)))], [RING])

    def test_is_wish_chain(self):
        layers = (ZERO_ALWAYS, ONE_ALWAYS)
        wishes = {(0,): 0, (1,): 1}
        right = ((0,), [(0, 1, (1,))])
        self.assertTrue(same(wish_chain(layers=layers, take=2, wishes=wishes), right))
        # There and back again, and there: a longer one.
        long = ((1,), ((1, 0, (0,)), (1, 0, (1,)), (0, 1, (0,))))
        for thing in (right, long):
            for value in otherwise(thing) + [thing]:
                self.assertIs(is_wish_chain(layers, 2, wishes, value),
                              plain_is_wish_chain(layers, 2, wishes, value), value)
        self.judges(is_wish_chain, (layers, 2, wishes), [right, long, ((0,), ((0, 1, (1,)),))],
                    [((0,), []), ((1,), right[1]), ((0,), [(0, 1, (1,)), (0, 1, (0,))]), right[:1], list(right)])
        self.judges(is_wish_chain, (layers, 2, {(0,): 1, (1,): 1}), [], [right])
        self.judges(is_wish_chain, (layers, 2, {(1,): 1}), [], [right, long])
        self.judges(is_wish_chain, (layers[:1], 2, wishes), [], [right, long, ((0,), [(0, 0, (1,))]), ((0,), [])])
        draw = random.Random(724)
        for layers, _, take in some_layers(2)[-12:]:
            wishes = random_wishes(draw, layers, take)
            chain = wish_chain(layers, take, wishes)
            for value in otherwise(chain)[:400]:
                self.assertIs(is_wish_chain(layers, take, wishes, value),
                              plain_is_wish_chain(layers, take, wishes, value))

    def test_nothing_is_wished(self):
        for layers, place, take in some_layers(1):
            self.assertEqual(layers_of(wished(layers, place, take, {}), place), layers)
            self.assertIsNone(wish_chain(layers, take, {}))

    def test_wrong_values(self):
        good = {"layers": (ZERO_ALWAYS, ZERO_ALWAYS), "place": 0, "take": 2, "wishes": {(0,): 0, (1,): 1}}
        wrong = {"layers": (BadLayers, WRONG_LAYERS), "place": (BadPlace, wrong_numbers(2)),
                 "take": (BadTake, WRONG_TAKES), "wishes": (BadWishes, WRONG_WISHES)}
        self.refuses(wished, good, wrong)
        self.refuses(is_wished, {**good, "thing": None}, wrong)
        del good["place"], wrong["place"]
        self.refuses(wish_chain, good, wrong)
        self.refuses(is_wish_chain, {**good, "thing": None}, wrong)
        for function, given in [(wished, (0,)), (is_wished, (0,)), (wish_chain, ()), (is_wish_chain, ())]:
            more = (None,) if function in (is_wished, is_wish_chain) else ()
            self.refused(NotFine, function, (RING,), *given, 2, {(0, 0): 0}, *more)
            self.refused(BadWishes, function, (RING,), *given, 2, {(0, 0): 2}, *more)
            self.refused(BadTake, function, (RING,), *given, 0, None, *more)
        self.refused(BadPlace, wished, (RING,), 3, 0, None)
        self.assertIn(None, OTHER_KINDS)


class Counts(Case):
    def test_count_and_list(self):
        for sends, takes in SMALL:
            right = fine_of(sends, takes)
            self.assertEqual(fine_count(sends, takes), len(right))
            found = fine_tables(sends=sends, takes=takes)
            self.assertEqual(found, right)
            self.assertEqual([table.notes for table in found], sorted(table.notes for table in right))
        for sends, takes in [((2, 3), (2, 3)), ((3, 2), (3, 2)), ((5, 2), (1, 3)), ((1, 4), (2, 3)), ((3, 3), (2, 2))]:
            (a, b), (c, d) = sends, takes
            self.assertEqual(fine_count(sends=sends, takes=takes), c ** b * d + c * d ** a - c * d)
            self.assertEqual(len(fine_tables(sends, takes)), fine_count(sends, takes))
        self.assertEqual([fine_count((2,) * k, (2,) * k) for k in (1, 2, 3)], [2, 12, 744])
        self.assertEqual(fine_count((8, 8), (64, 64)), 2 * 64 ** 9 - 64 ** 2)
        self.assertEqual(fine_count((2, 2, 1), (2, 2, 64)), 12 * 64 ** 4)

    def test_any_room_in_the_place_of_the_last(self):
        for sends, takes in [((2, 2, 3), (1, 2, 2)), ((2, 1, 2), (1, 2, 3)), ((2, 2, 2), (2, 1, 2)),
                             ((1, 2, 1, 2), (2, 2, 1, 1)), ((3, 2, 1), (2, 1, 2))]:
            counts = {fine_count(tuple(sends[k] for k in order), tuple(takes[k] for k in order))
                      for order in permutations(range(len(sends)))}
            self.assertEqual(len(counts), 1)
        for sends, takes in [((2, 2, 2), (2, 2, 1)), ((2, 1, 2), (2, 2, 2))]:
            for room in range(3):
                others = fine_of(less(sends, room), less(takes, room))
                found = sum(takes[room] ** len(plain_classes(layers))
                            for layers in product(others, repeat=sends[room]))
                self.assertEqual(fine_count(sends, takes), found)

    def test_three_rooms_of_two_notes(self):
        found = fine_tables((2, 2, 2), (2, 2, 2))
        self.assertEqual([table.notes for table in found], sorted({table.notes for table in found}))
        self.assertEqual(len(found), 744)
        self.assertTrue(all(plain_fine(table) for table in found))
        self.assertIn(TURNING, found)

    def test_kinds(self):
        for sends, takes in SMALL:
            firsts = {first_like(table).notes for table in fine_of(sends, takes)}
            found = kinds(sends=sends, takes=takes)
            self.assertEqual([table.notes for table in found], sorted(firsts))
            self.assertTrue(all((table.sends, table.takes) == (sends, takes) for table in found))
        self.assertEqual([len(kinds((2,) * k, (2,) * k)) for k in (1, 2)], [1, 2])

    def test_kinds_times_keepings(self):
        for sends, takes in [((2, 2), (2, 2)), ((2, 2), (1, 3)), ((2, 1, 2), (2, 1, 2)), ((3,), (2,))]:
            tables = fine_tables(sends, takes)
            left = sum(plain_renamed_to_itself(table) for table in tables)
            self.assertEqual(len(kinds(sends, takes)) * keeping_count(sends, takes), left)

    def test_too_many_tuples(self):
        seen = set()
        for sends, takes in [((2, 2, 4), (2, 2, 2)), ((2, 2, 3), (2, 2, 2)), ((2, 2, 2, 1), (64, 64, 2, 1)),
                             ((2, 2, 2, 1), (2, 2, 2, 2)), ((1, 1, 15), (2, 1, 3)), ((1, 1, 14), (2, 1, 3)),
                             ((2, 2, 1), (20, 20, 1)), ((2, 2, 2, 2), (2, 2, 2, 1)), ((2, 2, 2, 1, 1), (2, 2, 2, 2, 1)),
                             ((1, 1, 1, 1), (25, 32, 25, 2)), ((1, 1, 1, 1), (8, 41, 61, 2)),
                             ((1, 1, 1, 1, 1), (8, 41, 61, 1, 1))]:
            right = plain_is_many(sends, takes)
            seen.add(right)
            if right:
                self.assertEqual(self.refused(TooMany, fine_count, sends, takes).most, 20000)
            else:
                self.assertGreater(fine_count(sends, takes), 2000)
            for function in (fine_tables, kinds):
                self.assertEqual(self.refused(TooMany, function, sends, takes).most, 20000 if right else 2000)
        self.assertEqual(seen, {True, False})
        self.assertEqual(fine_count((1, 1, 14), (2, 1, 3)), 3 * 2 ** 14)
        self.assertEqual(fine_count((1, 1, 1, 1), (25, 32, 25, 2)), 40000)

    def test_too_many_tables(self):
        self.assertEqual(len(fine_tables((1, 1), (40, 50))), 2000)
        for sends, takes in [((1, 1, 1), (23, 29, 3)), ((2, 2), (32, 32))]:
            self.assertGreater(fine_count(sends, takes), 2000)
            for function in (fine_tables, kinds):
                self.assertEqual(self.refused(TooMany, function, sends, takes).most, 2000)
        self.assertEqual(len(fine_tables((8,), (1,))), 1)
        self.assertEqual(self.refused(TooMany, kinds, (8,), (1,)).most, 20000)
        self.assertEqual(len(kinds((7,), (1,))), 1)
        self.assertEqual(self.refused(TooMany, kinds, (1, 1), (40, 50)).most, 20000)

    def test_wrong_values(self):
        sizes = {"sends": (BadSends, [None, True, 0, (), [2, 3], (2,) * 7, (0, 3), (65,), (2, True), (8, 9), ("2", 3),
                                      deep_value()]),
                 "takes": (BadTakes, [None, 2, (), [3, 2], (2,), (2, 3, 2), (0, 2), (65, 2), (True, 2), (2, None)])}
        for function in (fine_count, fine_tables, kinds):
            self.refuses(function, {"sends": (2, 2), "takes": (2, 2)}, sizes)

    def test_results_are_new(self):
        for function in (fine_tables, kinds):
            function((2, 2), (2, 2)).clear()
            self.assertGreater(len(function((2, 2), (2, 2))), 0)
        layer_classes((ZERO_ALWAYS,)).clear()
        self.assertEqual(len(layer_classes((ZERO_ALWAYS,))), 2)
        self.assertIsNone(wish_chain((random_table(random.Random(1), (1,), (2,)),), 1, {}))


def plain_is_many(sends, takes):
    """Whether there are more than 20000 tuples of fine tables of the rooms but the last, or for fewer rooms."""
    if len(sends) < 3:
        return False
    if plain_is_many(sends[:-1], takes[:-1]):
        return True
    return fine_count(sends[:-1], takes[:-1]) ** sends[-1] > 20000


def plain_renamed_to_itself(table):
    """How many renamings that keep the sizes leave the table as it is."""
    many = 0
    rooms = range(len(table.sends))
    for order in permutations(rooms):
        if any((table.sends[k], table.takes[k]) != (table.sends[order[k]], table.takes[order[k]]) for k in rooms):
            continue
        for sent in product(*[permutations(range(size)) for size in table.sends]):
            for names in product(*[permutations(range(size)) for size in table.takes]):
                many += all(renamed_row(order, names, received) == brings(table)[renamed_row(order, sent, sending)]
                            for sending, received in brings(table).items())
    return many


def renamed_row(order, names, row):
    found = [None] * len(row)
    for k, number in enumerate(row):
        found[order[k]] = names[k][number]
    return tuple(found)
