"""Tables to try things on, plain reckonings straight from the document, and wrong values."""

import random
import unittest
from itertools import product

from onestory.chances import Chances
from onestory.sketches import Sketch
from onestory.tables import Table, quiet_table, ring_table, turning_table

ZERO_ALWAYS = Table((2,), (2,), ((0,), (0,)))


def rows(sizes):
    return list(product(*[range(size) for size in sizes]))


def brings(table):
    return dict(zip(rows(table.sends), table.notes))


def rules_of_room(table, room):
    return list(product(range(table.sends[room]), repeat=table.takes[room]))


def every_rules(table):
    return list(product(*[rules_of_room(table, room) for room in range(len(table.sends))]))


def answered(table, rules, sending):
    received = brings(table)[sending]
    return tuple(rule[note] for rule, note in zip(rules, received))


def plain_stories(table, rules):
    return [sent for sent, received in brings(table).items()
            if all(rules[k][received[k]] == sent[k] for k in range(len(sent)))]


def parting_rooms(table, one, other):
    here, there = brings(table)[one], brings(table)[other]
    return [k for k in range(len(one)) if one[k] != other[k] and here[k] == there[k]]


def plain_unparted(table):
    every = rows(table.sends)
    return [(one, other) for one in every for other in every
            if one < other and not parting_rooms(table, one, other)]


def plain_fine(table):
    return not plain_unparted(table)


def unlike_alone(one, other, room):
    return one[room] != other[room] and all(one[k] == other[k] for k in range(len(one)) if k != room)


def plain_hears(table, speaker, hearer):
    lines = brings(table)
    return any(unlike_alone(one, other, speaker) and lines[one][hearer] != lines[other][hearer]
               for one in lines for other in lines)


def every_table(sends, takes):
    many = len(rows(sends))
    return [Table(sends, takes, notes) for notes in product(rows(takes), repeat=many)]


def random_table(draw, sends, takes):
    return Table(sends, takes, tuple(tuple(draw.randrange(size) for size in takes) for _ in rows(sends)))


def random_rules(draw, table):
    return tuple(tuple(draw.randrange(sent) for _ in range(taken)) for sent, taken in zip(table.sends, table.takes))


def clocked_table(draw, sends, takes):
    """A fine table that is led by some clock, another order of rooms on each way."""
    notes = {sent: [None] * len(sends) for sent in rows(sends)}

    def lead(lines, left):
        if not left:
            return
        room = draw.choice(left)
        note = draw.randrange(takes[room])
        for sent in lines:
            notes[sent][room] = note
        for number in range(sends[room]):
            lead([sent for sent in lines if sent[room] == number], [k for k in left if k != room])

    lead(rows(sends), list(range(len(sends))))
    return Table(sends, takes, tuple(tuple(notes[sent]) for sent in rows(sends)))


def wandered_table(draw, table, steps):
    """A fine table that comes of a fine one by changes of single rests, which keep it fine."""
    for _ in range(steps):
        room = draw.randrange(len(table.sends))
        note = draw.randrange(table.takes[room])
        at = draw.choice(rows(table.sends))
        notes = {sent: received for sent, received in brings(table).items()}
        for sent in notes:
            if sent == at or unlike_alone(sent, at, room):
                notes[sent] = notes[sent][:room] + (note,) + notes[sent][room + 1:]
        other = Table(table.sends, table.takes, tuple(notes.values()))
        if plain_fine(other):
            table = other
    return table


def spark_four():
    """Four rooms, a clock in none of which leads, though it is fine (a table of sparks)."""
    sparks = ((0, 0, 0, 0), (1, 0, 1, 1), (0, 1, 0, 0), (0, 0, 1, 0))
    sends = (2,) * 4
    notes = tuple(tuple(int(all(sent[j] == sparks[k][j] for j in range(4) if j != k)) for k in range(4))
                  for sent in rows(sends))
    return Table(sends, sends, notes)


def odd_three():
    """Three rooms that receive 1 if the two others send unlike numbers: no lone ring, but not fine."""
    sends = (2, 2, 2)
    return Table(sends, sends, tuple(tuple((sum(sent) - sent[k]) % 2 for k in range(3)) for sent in rows(sends)))


def guarded_ring(ring, guard, rooms):
    """So many rooms; those of the ring hear the one ahead of them there if the guard sends 1; else all is quiet."""
    notes = []
    for sent in rows((2,) * rooms):
        received = [0] * rooms
        for ahead, room in zip(ring[-1:] + ring[:-1], ring):
            received[room] = sent[ahead] if sent[guard] == 1 else 0
        notes.append(tuple(received))
    return Table((2,) * rooms, (2,) * rooms, tuple(notes))


GUARDED = [guarded_ring((0, 1, 2), 3, 4), guarded_ring((0, 2, 1), 3, 4), guarded_ring((1, 2, 3), 0, 4),
           guarded_ring((0, 3), 2, 4), guarded_ring((2, 4, 1, 0), 3, 6), guarded_ring((0, 1, 3, 4, 5), 2, 6)]


def whole_families():
    """All tables of some small sizes."""
    sizes = [((1,), (1,)), ((1,), (3,)), ((2,), (1,)), ((2,), (2,)), ((2,), (3,)), ((3,), (2,)), ((1, 1), (2, 2)),
             ((2, 1), (1, 2)), ((2, 1), (2, 2)), ((1, 2), (2, 1)), ((2, 2), (1, 2)), ((2, 2), (2, 2))]
    return [table for sends, takes in sizes for table in every_table(sends, takes)]


def some_tables(many, seed=1):
    """Tables of greater sizes, so many of each, fine ones and others."""
    draw = random.Random(seed)
    sizes = [((2, 3), (2, 2)), ((3, 2), (3, 1)), ((4,), (3,)), ((2, 2, 2), (2, 2, 2)), ((2, 1, 2), (2, 2, 1)),
             ((3, 2, 2), (1, 2, 2)), ((2, 2, 2, 2), (2, 2, 1, 2))]
    found = [turning_table(), spark_four(), odd_three(), ring_table((2, 3)), ring_table((2, 2, 2)), ring_table((3,)),
             quiet_table((2, 1, 2), (2, 1, 1))]
    for sends, takes in sizes:
        for _ in range(many):
            led = clocked_table(draw, sends, takes)
            found.append(random_table(draw, sends, takes))
            found.append(led)
            found.append(wandered_table(draw, led, 20))
            room = draw.randrange(len(sends))
            at = draw.randrange(len(led.notes))
            received = list(led.notes[at])
            received[room] = draw.randrange(takes[room])
            found.append(Table(sends, takes, led.notes[:at] + (tuple(received),) + led.notes[at + 1:]))
    for _ in range(many):
        found.append(wandered_table(draw, turning_table(), 20))
        found.append(wandered_table(draw, spark_four(), 20))
    return found


def fine_tables(many, seed=1):
    return [table for table in some_tables(many, seed) if plain_fine(table)]


CHANCES_SIZES = [((2,), (2,)), ((3,), (2,)), ((2, 2), (2, 2)), ((2, 1), (2, 2)), ((2, 3), (2, 2)), ((1, 1), (2, 2)),
                 ((2, 2, 2), (2, 2, 1)), ((2, 2, 2), (2, 2, 2))]


def random_chances(draw, sizes=None):
    """Chances of any kind, which are hardly ever fair."""
    sends, takes = sizes or draw.choice(CHANCES_SIZES)
    total = draw.choice((1, 2, 3, 6))
    weights = []
    for _ in rows(sends):
        line = {}
        for _ in range(total):
            received = tuple(draw.randrange(size) for size in takes)
            line[received] = line.get(received, 0) + 1
        weights.append(tuple(sorted(line.items())))
    return Chances(sends, takes, tuple(weights))


OTHER_KINDS = [None, True, False, "", "0", "first", (), [], {}, (None,), [[]], {0: 0}, {True: 1}, {"a": ()}, -1,
               ZERO_ALWAYS, (ZERO_ALWAYS,), [ZERO_ALWAYS], {0: ZERO_ALWAYS}]


def deep_value():
    found = ()
    for _ in range(79):
        found = (found,)
    return found


def wrong_numbers(size):
    """What is no number from 0 to size - 1."""
    return [None, True, False, "0", "", -1, size, size + 1, 999999999, (0,), [0], {0: 0}, ZERO_ALWAYS, deep_value()]


def wrong_rows(sizes):
    """What is no tuple with a number below each of the sizes."""
    zeros = (0,) * len(sizes)
    found = [None, True, 0, "0" * len(sizes), list(zeros), zeros + (0,), {k: 0 for k in range(len(sizes))},
             (zeros,), [zeros], ZERO_ALWAYS, deep_value()]
    if sizes:
        found.append(zeros[:-1])
    for k in range(len(sizes)):
        found += [zeros[:k] + (wrong,) + zeros[k + 1:] for wrong in wrong_numbers(sizes[k])]
    return found


def wrong_sendings(table):
    return wrong_rows(table.sends)


def wrong_rule(table, room):
    return wrong_rows((table.sends[room],) * table.takes[room])


def zero_rules(table):
    return tuple((0,) * taken for taken in table.takes)


def wrong_rules(table):
    zeros = zero_rules(table)
    found = [None, True, 0, "rules", (), list(zeros), [list(rule) for rule in zeros], zeros + ((0,),), zeros[:-1],
             dict(enumerate(zeros)), (zeros,), ZERO_ALWAYS, deep_value()]
    for room in range(len(zeros)):
        found += [zeros[:room] + (wrong,) + zeros[room + 1:] for wrong in wrong_rule(table, room)]
    return found


def wrong_tables(table):
    return [None, True, 0, "table", (table.sends, table.takes, table.notes), [table], (table,), {}, deep_value()]


def wrong_chances(chances):
    return [None, True, 0, "chances", (), [chances], (chances,), (chances.sends, chances.takes, chances.weights),
            ZERO_ALWAYS, {}, deep_value()]


def wired_table(draw, sends, takes, wires):
    """Each room receives some function of what the rooms send that wires tell for it."""
    known = {}
    notes = []
    for sent in rows(sends):
        received = []
        for room, wired in enumerate(wires):
            key = (room, tuple(sent[other] for other in wired))
            received.append(known.setdefault(key, draw.randrange(takes[room])))
        notes.append(tuple(received))
    return Table(sends, takes, tuple(notes))


FINE = {}


def fine_of(sends, takes):
    """All fine tables of these small sizes, ascending by their notes."""
    if (sends, takes) not in FINE:
        FINE[sends, takes] = [table for table in every_table(sends, takes) if plain_fine(table)]
    return FINE[sends, takes]


def every_cell(shape):
    return [(sent, room) for sent in rows(shape.sends) for room in range(len(shape.sends))]


def at_cell(shape, cell):
    return brings(shape)[cell[0]][cell[1]]


def blank_sketch(sends, takes):
    return Sketch(sends, takes, ((None,) * len(sends),) * len(rows(sends)))


def random_sketch(draw, sends, takes, share):
    """Each cell is known with so many chances of a hundred."""
    return Sketch(sends, takes, tuple(tuple(draw.randrange(size) if draw.randrange(100) < share else None
                                            for size in takes) for _ in rows(sends)))


def partly_known(draw, table, share):
    """A sketch of the table, in which each cell is known with so many chances of a hundred."""
    return Sketch(table.sends, table.takes, tuple(tuple(note if draw.randrange(100) < share else None
                                                        for note in received) for received in table.notes))


def agree(sketch, table):
    return all(note is None or note == told for here, there in zip(sketch.notes, table.notes)
               for note, told in zip(here, there))


def plain_fits(sketch):
    return [table for table in fine_of(sketch.sends, sketch.takes) if agree(sketch, table)]


def wrong_sketches(sketch):
    return [None, True, 0, "sketch", (sketch.sends, sketch.takes, sketch.notes), [sketch], (sketch,), {},
            ZERO_ALWAYS, deep_value()]


def is_exact(thing, kind, low=None, high=None):
    """A value of just this kind; a number from low to less than high."""
    return thing.__class__ is kind and (low is None or low <= thing) and (high is None or thing < high)


def same(one, other):
    """Equal, with the same kinds at every depth, so that True is not 1."""
    if one.__class__ is not other.__class__:
        return False
    if isinstance(one, (list, tuple)):
        return len(one) == len(other) and all(same(here, there) for here, there in zip(one, other))
    if isinstance(one, dict):
        return (len(one) == len(other) and all(any(same(key, found) for found in other) for key in one)
                and all(same(one[key], other[key]) for key in one))
    return one == other


def is_one_of(thing, things):
    return any(same(thing, other) for other in things)


def otherwise(thing):
    """Values that are like this one but for one thing, somewhere in it."""
    if isinstance(thing, bool) or thing is None:
        return [0, 1]
    if isinstance(thing, int):
        bools = [value for value in (True, False) if value == thing]
        return [thing + 1, thing - 1, None, str(thing), (thing,), 99] + bools
    if isinstance(thing, str):
        return [thing + "s", "", None, 0, (thing,)]
    if isinstance(thing, dict):
        return otherwise_dicts(thing)
    if not isinstance(thing, (list, tuple)):
        return [None]
    kind = thing.__class__
    items = list(thing)
    found = [list(items) if kind is tuple else tuple(items), kind(items[::-1]), kind(items + [()]), None, 0, {}]
    found += [kind(items + items[-1:]), kind([items]), dict(enumerate(items))]
    for at, item in enumerate(items):
        found.append(kind(items[:at] + items[at + 1:]))
        found += [kind(items[:at] + [other] + items[at + 1:]) for other in otherwise(item)]
    return found


def otherwise_dicts(thing):
    found = [list(thing.items()), list(thing), tuple(thing.items()), None, {**thing, None: None}]
    for key in thing:
        less = {other: thing[other] for other in thing if other != key}
        found.append(less)
        found += [{**less, key: other} for other in otherwise(thing[key])]
        found += [{**less, other: thing[key]} for other in otherwise(key) if is_key(other)]
    return found


def is_key(thing):
    try:
        hash(thing)
    except TypeError:
        return False
    return True


class Case(unittest.TestCase):
    def refused(self, error, function, *given, **named):
        """Exactly this error is raised; it is returned."""
        try:
            found = function(*given, **named)
        except Exception as wrong:
            self.assertIs(error, wrong.__class__, (function, given, named))
            return wrong
        self.fail(f"{function} {given} {named} returned {found}")

    def refuses(self, function, good, wrong):
        """Each wrong value of each parameter, all else good; and, of two wrong ones, the first one is due.

        good is a dict from the names of the parameters to values, wrong one from some of them to pairs of an
        error and values.
        """
        names = list(good)
        for name in wrong:
            error, values = wrong[name]
            for value in values:
                given = {**good, name: value}
                self.refused(error, function, **given)
                self.refused(error, function, *given.values())
        for first in wrong:
            for second in wrong:
                if names.index(first) < names.index(second):
                    for value in wrong[second][1]:
                        given = {**good, first: wrong[first][1][0], second: value}
                        self.refused(wrong[first][0], function, **given)

    def judges(self, function, given, right, wrong):
        """True for what is right, False for what is wrong and for values of other kinds."""
        for value in right:
            self.assertIs(function(*given, value), True, (function, given, value))
            self.assertIs(function(*given, thing=value), True)
        for value in list(wrong) + [deep_value()]:
            self.assertIs(function(*given, value), False, (function, given, value))
        for value in OTHER_KINDS:
            if not any(value is other or value == other for other in right):
                self.assertIs(function(*given, value), False, (function, given, value))
