"""[110] The deeds of a house; [111] what it tells."""

import random
from itertools import permutations

from onestory.classes import classes
from onestory.clocks import hears
from onestory.closings import possible, sure_notes
from onestory.errors import (BadBinding, BadNotes, BadRoom, BadRooms, BadSafe, BadSent, BadTable, NotBound, NotFine,
                             NothingDone, NothingUndone, StoryError, Unsafe)
from onestory.house import House
from onestory.ones import the_story
from onestory.tables import Table, quiet_table, ring_table, turning_table
from tests.samples import (ZERO_ALWAYS, Case, brings, clocked_table, deep_value, every_rules, fine_of, fine_tables,
                           plain_fine, plain_hears, random_rules, rows, same, spark_four, wandered_table,
                           wrong_numbers, wrong_rows, wrong_rule, wrong_tables)

RING = ring_table((2, 2))
TURNING = turning_table()
QUIET = quiet_table((2, 2), (2, 2))


class Plain:
    """A house told straight from the document: a table, rules of some rooms, a guard."""

    def __init__(self, table, known=None, guard=None):
        self.table, self.known, self.guard = table, dict(known or {}), guard

    def free(self):
        return [k for k in range(len(self.table.sends)) if k not in self.known]

    def possible(self):
        return [sent for sent, received in brings(self.table).items()
                if all(rule[received[k]] == sent[k] for k, rule in self.known.items())]

    def done(self, deed):
        """The house behind a deed that is well formed, or what it raises."""
        table, known, guard = self.table, dict(self.known), self.guard
        if deed[0] == "bind":
            known.update(deed[1])
        if deed[0] == "loosen":
            for room in deed[1]:
                if room not in known:
                    return NotBound, room
                del known[room]
        if deed[0] == "turn":
            room = deed[1]
            table = Table(table.sends, table.takes, tuple(
                received[:room] + (note,) + received[room + 1:] for received, note in zip(table.notes, deed[2])))
            if not plain_fine(table):
                return NotFine, None
        if deed[0] == "guard":
            guard = deed[1]
        found = Plain(table, known, guard)
        wrong = [sent for sent in found.possible() if guard is not None and sent not in guard]
        return (Unsafe, wrong[0]) if wrong else found

    def left(self):
        """What the free rooms receive when the bound ones send what their rules say."""
        free = self.free()
        if not free:
            return None
        lines = {tuple(sent[k] for k in free): tuple(brings(self.table)[sent][k] for k in free)
                 for sent in self.possible()}
        return Table(tuple(self.table.sends[k] for k in free), tuple(self.table.takes[k] for k in free),
                     tuple(lines[sent] for sent in sorted(lines)))


def random_deed(draw, plain):
    table = plain.table
    rooms = range(len(table.sends))
    word = draw.choice(("bind", "bind", "loosen", "turn", "turn", "guard", "none"))
    some = tuple(sorted(draw.sample(rooms, draw.randrange(1, len(table.sends) + 1))))
    if word == "bind":
        rules = random_rules(draw, table)
        return ("bind", {room: rules[room] for room in reversed(some)})
    if word == "loosen":
        bound = sorted(plain.known)
        if bound and draw.randrange(4):
            some = tuple(sorted(draw.sample(bound, draw.randrange(1, len(bound) + 1))))
        return ("loosen", some)
    if word == "turn":
        room = draw.choice(rooms)
        if draw.randrange(4) == 0:
            return ("turn", room, tuple(draw.randrange(table.takes[room]) for _ in table.notes))
        told = {}
        for lot in classes(table, room):
            note = draw.randrange(table.takes[room])
            told.update({rest: note for rest in lot})
        return ("turn", room, tuple(told[sent[:room] + sent[room + 1:]] for sent in rows(table.sends)))
    if word == "none":
        return ("guard", None)
    every = rows(table.sends)
    safe = set(plain.possible()) if draw.randrange(3) else set()
    return ("guard", tuple(sorted(safe | set(draw.sample(every, draw.randrange(len(every) + 1))))))


def do(house, deed):
    if deed[0] == "turn":
        return house.turn(deed[1], deed[2])
    return {"bind": house.bind, "loosen": house.loosen, "guard": house.guard}[deed[0]](deed[1])


def begun_tables():
    draw = random.Random(1100)
    found = [TURNING, QUIET, ZERO_ALWAYS, spark_four(), quiet_table((1, 2), (2, 2)), quiet_table((3,), (2,))]
    for sends, takes in [((2, 2), (2, 2)), ((2, 2, 2), (2, 2, 2)), ((3, 2, 2), (2, 2, 1)), ((2, 1, 3), (2, 3, 2))]:
        found += [wandered_table(draw, clocked_table(draw, sends, takes), 5) for _ in range(2)]
    return found


class Deeds(Case):
    def told(self, house, plain):
        """All that the house tells is what is so."""
        self.assertEqual(house.table(), plain.table)
        self.assertTrue(same(house.bound(), plain.known))
        self.assertEqual(list(house.bound()), sorted(plain.known))
        self.assertTrue(same(house.free(), plain.free()))
        self.assertTrue(same(house.guarded(), plain.guard))
        self.assertTrue(same(house.possible(), plain.possible()))
        left = house.left()
        self.assertEqual(left, plain.left())
        sure = {k: notes.pop() for k, notes in enumerate(
            {brings(plain.table)[sent][k] for sent in plain.possible()} for k in range(len(plain.table.sends)))
            if len(notes) == 1}
        self.assertTrue(same(house.sure(), sure))
        self.assertEqual(list(house.sure()), sorted(sure))
        free = plain.free()
        heard = [] if left is None else [(free[a], free[b]) for a in range(len(free)) for b in range(len(free))
                                         if plain_hears(left, a, b)]
        self.assertTrue(same(house.heard(), heard))
        for sent in plain.possible():
            self.assertEqual(house.story({room: sent[room] for room in reversed(free)}), sent)

    def test_a_life_of_deeds(self):
        draw = random.Random(1101)
        seen = {}
        for table in begun_tables() * 2:
            house, plain = House(table), Plain(table)
            done, undone = [(None, plain)], []
            for _ in range(30):
                step = draw.randrange(10)
                before = (house.log(), house.possible(), len(house))
                if step == 0 and len(done) > 1:
                    self.assertIsNone(house.undo())
                    undone.append(done.pop())
                elif step == 1 and undone:
                    self.assertIsNone(house.redo())
                    done.append(undone.pop())
                else:
                    deed = random_deed(draw, done[-1][1])
                    found = done[-1][1].done(deed)
                    if isinstance(found, Plain):
                        self.assertIsNone(do(house, deed))
                        done.append((deed, found))
                        undone = []
                    else:
                        seen[found[0]] = seen.get(found[0], 0) + 1
                        wrong = self.refused(found[0], do, house, deed)
                        if found[0] is NotBound:
                            self.assertEqual(wrong.room, found[1])
                        if found[0] is Unsafe:
                            self.assertEqual(wrong.sending, found[1])
                        self.assertEqual((house.log(), house.possible(), len(house)), before)
                self.told(house, done[-1][1])
                self.assertEqual(len(house), len(done) - 1)
                self.assertTrue(same(house.log(), [deed for deed, _ in done[1:]]))
            if not undone:
                self.refused(NothingUndone, house.redo)
            while len(done) > 1:
                house.undo()
                undone.append(done.pop())
            self.refused(NothingDone, house.undo)
            self.assertEqual(house, House(table))
            self.assertEqual(house.log(), [])
            while undone:
                house.redo()
                done.append(undone.pop())
                self.told(house, done[-1][1])
            self.refused(NothingUndone, house.redo)
        self.assertTrue({NotBound, NotFine, Unsafe} <= set(seen) and min(seen.values()) > 5)

    def test_by_hand(self):
        house = House(table=TURNING)
        self.assertEqual((house.left(), house.guarded(), house.bound(), len(house)), (TURNING, None, {}, 0))
        house.bind(rules={0: (0, 1)})
        self.assertEqual(house.possible(), [(0, 0, 0), (0, 1, 0), (0, 1, 1), (1, 0, 1)])
        self.assertEqual(house.left(), Table((2, 2), (2, 2), ((0, 0), (0, 0), (0, 1), (0, 1))))
        self.assertEqual((house.heard(), house.sure()), ([(1, 2)], {1: 0}))
        self.assertEqual(house.story(sent={2: 1, 1: 0}), (1, 0, 1))
        house.bind({1: (1, 1), 2: (0, 0)})
        self.assertEqual((house.left(), house.heard(), house.free(), house.story({})), (None, [], [], (0, 1, 0)))
        house.loosen(rooms=(0, 2))
        house.turn(room=1, notes=(0,) * 8)
        self.assertEqual(house.log(), [("bind", {0: (0, 1)}), ("bind", {1: (1, 1), 2: (0, 0)}), ("loosen", (0, 2)),
                                       ("turn", 1, (0,) * 8)])
        house.guard(safe=tuple(house.possible()))
        self.assertEqual(house.guarded(), ((0, 1, 0), (0, 1, 1), (1, 1, 0), (1, 1, 1)))
        self.assertEqual(self.refused(Unsafe, house.loosen, (1,)).sending, (0, 0, 0))
        house.guard(None)
        self.assertIsNone(house.guarded())
        self.assertEqual(len(house), 6)

    def test_guards(self):
        house = House(QUIET)
        self.assertEqual(self.refused(Unsafe, house.guard, ()).sending, (0, 0))
        house.bind({0: (1, 1)})
        self.assertEqual(self.refused(Unsafe, house.guard, ()).sending, (1, 0))
        self.assertEqual(self.refused(Unsafe, house.guard, ((1, 1),)).sending, (1, 0))
        house.guard(((1, 0), (1, 1)))
        self.assertEqual(self.refused(Unsafe, house.bind, {0: (0, 1)}).sending, (0, 0))
        house.bind({0: (1, 0)})
        self.assertEqual(self.refused(Unsafe, house.turn, 0, (1, 1, 1, 1)).sending, (0, 0))
        house.turn(1, (1, 1, 1, 1))
        self.assertEqual(self.refused(Unsafe, house.loosen, (0,)).sending, (0, 0))
        self.assertEqual(house.log()[1:], [("guard", ((1, 0), (1, 1))), ("bind", {0: (1, 0)}), ("turn", 1, (1,) * 4)])
        house.bind({1: (0, 0)})
        house.guard(((1, 0),))
        # What stands is no longer safe by another guard, and still may be taken back.
        self.assertEqual(self.refused(Unsafe, house.loosen, (1,)).sending, (1, 1))
        house.guard(None)
        house.loosen((0, 1))
        for _ in range(7):
            house.undo()
        self.assertEqual((house.guarded(), house.bound()), (None, {0: (1, 1)}))

    def test_a_new_deed_forgets_what_was_taken_back(self):
        house = House(TURNING)
        house.bind({0: (0, 0)})
        house.bind({1: (0, 0)})
        house.undo()
        self.refused(BadBinding, house.bind, {})
        self.refused(NotBound, house.loosen, (1,))
        house.redo()
        self.assertEqual(house.bound(), {0: (0, 0), 1: (0, 0)})
        house.undo()
        house.guard(None)
        self.refused(NothingUndone, house.redo)
        self.assertEqual(house.log(), [("bind", {0: (0, 0)}), ("guard", None)])

    def test_copies_go_their_own_way(self):
        house = House(TURNING)
        house.bind({0: (0, 1)})
        house.turn(1, (0,) * 8)
        house.undo()
        other = house.copy()
        self.assertIs(other.__class__, House)
        self.assertEqual((other, other.log()), (house, house.log()))
        other.redo()
        self.assertEqual((len(house), len(other)), (1, 2))
        self.assertEqual(house.table(), TURNING)
        house.loosen((0,))
        self.assertEqual((other.bound(), other.table() == TURNING), ({0: (0, 1)}, False))
        self.refused(NothingUndone, house.redo)
        other.undo()
        other.undo()
        self.assertEqual((other.log(), len(house)), ([], 2))
        other.redo()
        other.redo()
        self.assertEqual(len(other), 2)

    def test_equality(self):
        house, other = House(TURNING), House(TURNING)
        self.assertTrue(house == other)
        house.bind({0: (0, 1), 1: (1, 1)})
        self.assertFalse(house == other)
        other.bind({1: (0, 0)})
        other.bind({1: (1, 1)})
        other.bind({0: (0, 1)})
        self.assertTrue(house == other)
        house.guard(tuple(rows((2, 2, 2))))
        self.assertTrue(house != other)
        house.guard(None)
        self.assertTrue(house == other)
        house.turn(2, (0,) * 8)
        self.assertFalse(house == other)
        elsewhere = House(house.table())
        elsewhere.bind(house.bound())
        self.assertTrue(house == elsewhere)
        for thing in [None, TURNING, True, 0, (), {}, house.log()]:
            self.assertFalse(house == thing)
            self.assertTrue(house != thing)

    def test_wrong_values(self):
        self.refuses(House, {"table": TURNING}, {"table": (BadTable, wrong_tables(RING))})
        for table in [RING, ring_table((2,)), ring_table((2, 3, 2))]:
            self.refused(NotFine, House, table)
        house = House(TURNING)
        house.bind({1: (0, 1)})
        wrong = [None, True, 0, (), [], {}, [(0, (0, 1))], {3: (0, 1)}, {-1: (0, 1)}, {True: (0, 1)}, {None: (0, 1)},
                 {"0": (0, 1)}, {0: (0, 1), 3: (0, 1)}, {(0,): (0, 1)}, deep_value()]
        wrong += [{0: rule} for rule in wrong_rule(TURNING, 0)] + [{1: (0, 1), 0: (0, 2)}]
        self.refuses(house.bind, {"rules": {0: (0, 1)}}, {"rules": (BadBinding, wrong)})
        rooms = [None, True, 0, (), [], [1], (1, 0), (1, 1), (3,), (-1,), (True,), (0, None), {1: 0}, ((1,),), (1, 3),
                 deep_value()]
        self.refuses(house.loosen, {"rooms": (1,)}, {"rooms": (BadRooms, rooms)})
        for lot, room in [((0,), 0), ((0, 1), 0), ((1, 2), 2), ((0, 1, 2), 0)]:
            self.assertEqual(self.refused(NotBound, house.loosen, lot).room, room)
        self.refuses(house.turn, {"room": 1, "notes": (0,) * 8}, {
            "room": (BadRoom, wrong_numbers(3)), "notes": (BadNotes, wrong_rows((2,) * 8))})
        self.refused(NotFine, house.turn, 0, (0, 1) + (0,) * 6)
        self.refused(NotFine, house.turn, 0, (0, 0, 0, 0, 1, 0, 0, 0))
        safes = [None, True, 0, [], [(0, 0, 0)], ((0, 0),), ((0, 0, 2),), ((0, 0, True),), ((0, 0, 1), (0, 0, 0)), {},
                 ((0, 0, 0), (0, 0, 0)), (0, 0, 0), (None,), {(0, 0, 0): 0}, ([0, 0, 0],), deep_value()]
        self.refuses(house.guard, {"safe": ()}, {"safe": (BadSafe, safes[1:])})
        self.assertEqual(house.log(), [("bind", {1: (0, 1)})])

    def test_wrong_sends(self):
        house = House(quiet_table((2, 3, 2), (2, 2, 2)))
        house.bind({0: (0, 1)})
        wrong = [None, True, 0, (), [], {}, {1: 0}, {2: 0}, {1: 0, 2: 0, 0: 0}, {1: 0, 0: 0}, {1: 3, 2: 0},
                 {1: 0, 2: -1}, {1: True, 2: 0}, {True: 0, 2: 0}, {1: None, 2: 0}, {1: 0, 3: 0}, [(1, 0), (2, 0)],
                 {1: 0, "2": 0}, {1: 0, None: 0}, {1: (0,), 2: 0}, deep_value()]
        self.refuses(house.story, {"sent": {1: 2, 2: 0}}, {"sent": (BadSent, wrong)})
        house.bind({1: (0, 0), 2: (0, 0)})
        self.refuses(house.story, {"sent": {}}, {"sent": (BadSent, [None, (), [], {0: 0}, {None: 0}, False])})

    def test_nothing_is_handed_out(self):
        house = House(TURNING)
        rules = {1: (0, 1), 0: (1, 1)}
        house.bind(rules)
        rules.clear()
        for step in ("log", "bound", "possible", "free", "sure", "heard"):
            found = getattr(house, step)()
            found.clear()
        house.log()[0][1].clear()
        house.copy().log()[0][1].clear()
        self.assertEqual(house.log(), [("bind", {0: (1, 1), 1: (0, 1)})])
        self.assertEqual(list(house.log()[0][1]), [0, 1])
        self.assertEqual(house.bound(), {0: (1, 1), 1: (0, 1)})
        self.assertEqual(house.free(), [2])


class Facts(Case):
    def test_the_order_of_binding_has_no_effect(self):
        draw = random.Random(1110)
        for table in begun_tables():
            rules = random_rules(draw, table)
            rooms = sorted(draw.sample(range(len(rules)), draw.randrange(1, len(rules) + 1)))
            whole = House(table)
            whole.bind({room: rules[room] for room in rooms})
            for order in permutations(rooms):
                house = House(table)
                for room in order:
                    house.bind({room: rules[room]})
                self.assertEqual(house, whole)
                self.assertEqual((house.left(), house.possible(), house.sure(), house.heard()),
                                 (whole.left(), whole.possible(), whole.sure(), whole.heard()))

    def test_one_possible_sending_for_each_thing_that_the_free_rooms_send(self):
        draw = random.Random(1111)
        for table in begun_tables():
            rules = random_rules(draw, table)
            house = House(table)
            for room in draw.sample(range(len(rules)), len(rules)):
                before = house.possible()
                house.bind({room: rules[room]})
                self.assertEqual(len(house.possible()) * table.sends[room], len(before))
                sends = [tuple(sent[k] for k in house.free()) for sent in house.possible()]
                self.assertEqual(sorted(sends), rows(tuple(table.sends[k] for k in house.free())))
                if len(house.free()) == 1:
                    self.assertIn(house.free()[0], house.sure())
                for one in house.possible():
                    for other in house.possible():
                        for k in house.free():
                            if all(one[j] == other[j] for j in house.free() if j != k):
                                self.assertEqual(brings(table)[one][k], brings(table)[other][k])
            self.assertEqual(house.possible(), [the_story(table, rules)])
            for room in range(len(rules)):
                before = len(house.possible())
                house.loosen((room,))
                self.assertEqual(len(house.possible()), before * table.sends[room])

    def test_what_is_left_has_what_is_left_of_the_story(self):
        draw = random.Random(1112)
        for table in begun_tables() + fine_tables(1):
            rules = random_rules(draw, table)
            known = {room: rule for room, rule in enumerate(rules) if draw.randrange(2)}
            house = House(table)
            if known:
                house.bind(known)
            story = the_story(table, rules)
            self.assertEqual(house.possible(), possible(table, known))
            notes = sure_notes(table, known)
            self.assertEqual(house.sure(), {k: note for k, note in enumerate(notes) if note is not None})
            free = house.free()
            if free:
                left = house.left()
                self.assertEqual(the_story(left, tuple(rules[k] for k in free)), tuple(story[k] for k in free))
                self.assertEqual(house.heard(), [(free[a], free[b]) for a, b in hears(left)])
            self.assertEqual(house.story({k: story[k] for k in free}), story)

    def test_turns_by_classes(self):
        draw = random.Random(1113)
        seen = set()
        for table in [TURNING] + fine_of((2, 2), (2, 2)) + begun_tables():
            for _ in range(6):
                room = draw.randrange(len(table.sends))
                notes = [draw.randrange(table.takes[room]) for _ in table.notes]
                if draw.randrange(2):
                    notes = [notes[0]] * len(notes)
                told = {}
                for sent, note in zip(rows(table.sends), notes):
                    told.setdefault(sent[:room] + sent[room + 1:], set()).add(note)
                right = all(len(set().union(*[told[rest] for rest in lot])) == 1 for lot in classes(table, room))
                seen.add(right)
                try:
                    House(table).turn(room, tuple(notes))
                    self.assertTrue(right)
                except StoryError as wrong:
                    self.assertIs(wrong.__class__, NotFine)
                    self.assertFalse(right)
        self.assertEqual(seen, {True, False})
        self.assertEqual(len(every_rules(ZERO_ALWAYS)), 4)
