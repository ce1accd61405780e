"""The search for fine tables that agree with a sketch, with a reason for all that is given up on the way.

A cell has a number here: the place of its sending, times the number of rooms, and its room. A key is an ascending
tuple of pairs of an unknown cell and a note that cannot all stand in a fine table that is sought.
"""

from itertools import combinations

from onestory.shapes import rows
from onestory.tables import Table

NO_END = 999999999


class Search:
    """What is put in the cells at the moment, what is barred from them, and why."""

    def __init__(self, sketch):
        self.sends = sketch.sends
        self.takes = sketch.takes
        self.rooms = len(sketch.sends)
        self.note = [note for received in sketch.notes for note in received]
        self.unknown = [note is None for note in self.note]
        # For each cell the notes that it cannot have, each with the reason.
        self.barred = [{} for _ in self.note]
        # What was done, one after another: a cell and None where it was put, a cell and a note that was barred.
        self.trail = []
        # How long the trail was at each choice; for each cell at which of them, and when, it was put.
        self.marks = []
        self.level = [0 for _ in self.note]
        self.when = [0 for _ in self.note]
        self.queue = []
        # Whether the reasons are wanted; without them there is no way back but one choice after another.
        self.proving = True
        # For each key a rank, a reason and the keys of lesser rank that it comes of.
        self.steps = {}
        self.learnt = {}
        self.ends = []
        self.pairs = []
        self.pairs_of = [[] for _ in self.note]
        self.find_pairs()
        # The notes of a table to which the fit shall be near, or from which it shall differ; whether it is taken that
        # they stand where nothing else is put.
        self.home = None
        self.at_home = False
        self.most = len(self.note)
        self.apart = False
        self.unlike = 0
        # How many times more a clash may be met.
        self.tries = NO_END

    def find_pairs(self):
        """Lists the pairs of sendings that are not parted by what is known, with the cells that may part them."""
        lines = list(enumerate(rows(self.sends)))
        for (at, one), (to, other) in combinations(lines, 2):
            both = [(at * self.rooms + room, to * self.rooms + room) for room in range(self.rooms)
                    if one[room] != other[room]]
            if [1 for here, there in both if not self.unknown[here] and self.note[here] == self.note[there]]:
                continue
            both = [(here, there) for here, there in both if self.unknown[here] or self.unknown[there]]
            for here, there in both:
                self.pairs_of[here].append(len(self.pairs))
                self.pairs_of[there].append(len(self.pairs))
            self.ends.append((one, other))
            self.pairs.append(both)

    def near_to(self, table, most):
        """From now on a fit may differ from the table in at most so many cells that are unknown."""
        self.home = [note for received in table.notes for note in received]
        self.at_home = True
        self.most = most

    def apart_from(self, table):
        """From now on a fit must differ from the table, with which the sketch agrees."""
        self.home = [note for received in table.notes for note in received]
        self.at_home = True
        self.apart = True

    def takes_of(self, cell):
        return self.takes[cell % self.rooms]

    def settle(self, outs):
        """Bars what is out and puts what follows from what is known; a key that clashes, or None."""
        for cell, note in outs:
            clash = self.bar(cell, note, ("out", 0))
            if clash is not None:
                return clash
        for cell, unknown in enumerate(self.unknown):
            if unknown and self.note[cell] is None and self.takes_of(cell) == 1:
                self.fill(cell, 0)
        for pair in range(len(self.pairs)):
            clash = self.look_at(pair)
            if clash is not None:
                return clash
        clash = self.look_far()
        if clash is not None:
            return clash
        return self.spread()

    def fill(self, cell, note):
        """Puts the note in the cell."""
        self.note[cell] = note
        self.level[cell] = len(self.marks)
        self.when[cell] = len(self.trail)
        self.trail.append((cell, None))
        self.queue.append(cell)
        if self.home is not None and self.home[cell] != note:
            self.unlike += 1

    def bar(self, cell, note, why):
        """Bars the note from the cell for this reason; a key that clashes, or None."""
        if self.note[cell] == note:
            return self.key_of(cell, note, why)
        if self.note[cell] is not None or note in self.barred[cell]:
            return None
        self.barred[cell][note] = why
        self.trail.append((cell, note))
        left = self.takes_of(cell) - len(self.barred[cell])
        if left == 0:
            return self.resolved(cell, self.keys_against(cell, None))
        if left == 1:
            self.fill(cell, self.choices(cell)[0])
        return None

    def choices(self, cell):
        """The notes that are not barred from the cell."""
        return [note for note in range(self.takes_of(cell)) if note not in self.barred[cell]]

    def bar_others(self, cell, note, why):
        """Bars all notes but this one from the cell; a key that clashes, or None."""
        for other in range(self.takes_of(cell)):
            if other != note:
                clash = self.bar(cell, other, why)
                if clash is not None:
                    return clash
        return None

    def look_at(self, pair):
        """Sees to it that two sendings can still be parted; a key that clashes, or None."""
        loose = None
        for here, there in self.pairs[pair]:
            one = self.note[here]
            other = self.note[there]
            # Two cells that are both unknown may become alike as well as two that are.
            if one == other or loose is not None and (one is None or other is None):
                return None
            if one is None or other is None:
                loose = (here, other) if one is None else (there, one)
        if loose is None:
            return self.key_of(None, None, ("pair", pair))
        return self.bar_others(loose[0], loose[1], ("pair", pair))

    def look_far(self):
        """Sees to it that a fit stays near; a key that clashes, or None."""
        if self.unlike < self.most:
            return None
        base = [(cell, note) for cell, note in enumerate(self.note)
                if self.unknown[cell] and note is not None and note != self.home[cell]]
        if self.unlike > self.most:
            return self.key_of(None, None, ("far", tuple(base)))
        for cell, note in enumerate(self.home):
            if self.note[cell] is None:
                clash = self.bar_others(cell, note, ("far", tuple(base)))
                if clash is not None:
                    return clash
        return None

    def look_apart(self):
        """Sees to it that a fit is not the table itself; a key that clashes, or None."""
        if not self.apart or self.unlike > 0 or None in self.note:
            return None
        return self.key_of(None, None, ("own", 0))

    def spread(self):
        """Puts and bars what follows from what was put; a key that clashes, or None."""
        while self.queue:
            clash = self.look_behind(self.queue.pop())
            if clash is not None:
                self.queue = []
                return clash
        return self.look_apart()

    def look_behind(self, cell):
        """Looks at all that hangs on a cell that was put; a key that clashes, or None."""
        for pair in self.pairs_of[cell]:
            clash = self.look_at(pair)
            if clash is not None:
                return clash
        for key in self.learnt.get((cell, self.note[cell]), []):
            clash = self.look_in(key)
            if clash is not None:
                return clash
        return self.look_far()

    def look_in(self, key):
        """Sees to it that not all of a key comes to stand; a key that clashes, or None."""
        loose = []
        for cell, note in key:
            if self.note[cell] != note:
                if self.note[cell] is not None or note in self.barred[cell] or loose:
                    return None
                loose.append((cell, note))
        if not loose:
            return key
        return self.bar(loose[0][0], loose[0][1], ("key", key))

    def go_back(self, level):
        """Takes back all choices behind so many of them, and what followed from them."""
        while len(self.trail) > self.marks[level]:
            cell, note = self.trail.pop()
            if note is None:
                if self.home is not None and self.home[cell] != self.note[cell]:
                    self.unlike -= 1
                self.note[cell] = None
            else:
                del self.barred[cell][note]
        self.marks = self.marks[:level]

    def key_of(self, cell, note, why):
        """The key that tells why the note is barred from the cell, or, for no cell, why all that stands clashes."""
        word, thing = why
        if word == "key" or not self.proving:
            return thing
        told = {} if cell is None else {cell: note}
        if word == "far":
            for other, there in thing:
                told[other] = there
        if word == "own":
            told = {other: there for other, there in enumerate(self.note) if self.unknown[other]}
        if word == "pair":
            for other in [end for couple in self.pairs[thing] for end in couple if self.unknown[end]]:
                told[other] = told.get(other, self.note[other])
        return self.noted(told, 0, why, [])

    def noted(self, told, rank, why, below):
        """The key with these notes in these cells, for which a step is kept."""
        key = tuple(sorted(list(told.items())))
        if key not in self.steps:
            self.steps[key] = (rank, why, below)
        return key

    def keys_against(self, cell, key):
        """For each note of the cell a key that bars it; for the note that stands in the cell the given key."""
        return [key if note == self.note[cell] else self.key_of(cell, note, self.barred[cell][note])
                for note in range(self.takes_of(cell))]

    def resolved(self, cell, keys):
        """The key of all that bars the notes from the cell, one of the keys for each note."""
        if not self.proving:
            return ()
        told = {other: note for key in keys for other, note in key if other != cell}
        rank = 1 + max([self.steps[key][0] for key in keys])
        return self.noted(told, rank, ("cell", cell), keys)

    def shortened(self, key):
        """A key that clashes, with at most one cell that was put behind the last choice that it hangs on."""
        while key:
            top = max([self.level[cell] for cell, _ in key])
            last = [(self.when[cell], cell) for cell, _ in key if self.level[cell] == top]
            if top > 0 and len(last) == 1:
                return key
            cell = max(last)[1]
            key = self.resolved(cell, self.keys_against(cell, key))
        return key

    def turn_back(self, key):
        """Goes back as far as the key allows and bars there what it bars; a key that clashes, or None."""
        levels = sorted([(self.level[cell], cell, note) for cell, note in key])
        for pair in key:
            self.learnt.setdefault(pair, []).append(key)
        self.go_back(levels[-2][0] if len(levels) > 1 else 0)
        clash = self.bar(levels[-1][1], levels[-1][2], ("key", key))
        return self.spread() if clash is None else clash

    def works_out(self, outs):
        """Whether there is a fit that has none of the notes that are out; if not, the empty key has a step.

        None if that is not known when the tries are used up.
        """
        clash = self.settle(outs)
        while self.tries > 0:
            if clash is None:
                choice = self.choice()
                if choice is None:
                    return True
                clash = self.choose(choice)
            else:
                self.tries -= 1
                key = self.shortened(clash)
                if not key:
                    return False
                clash = self.turn_back(key)
        return None

    def choose(self, choice):
        """Puts a note in a cell, to be taken back again if it clashes; a key that clashes, or None."""
        cell, note = choice
        self.marks.append(len(self.trail))
        self.fill(cell, note)
        return self.spread()

    def choice(self):
        """A cell and a note that may part two sendings; None if all are parted, or will be whatever comes."""
        best = None
        least = self.rooms + 1
        for pair in range(len(self.pairs)):
            loose = self.loose_in(pair)
            if loose is not None and len(loose) < least:
                best = loose
                least = len(loose)
                if least == 1:
                    break
        if best is not None:
            return self.choice_in(best)
        if self.apart and self.unlike == 0:
            cells = [cell for cell, note in enumerate(self.note) if note is None]
            return self.choice_in([(cell, cell) for cell in cells])
        return None

    def loose_in(self, pair):
        """The couples of cells that may still part two sendings; None if a couple does."""
        loose = []
        for here, there in self.pairs[pair]:
            one = self.likely(here)
            if one is not None and one == self.likely(there):
                return None
            if self.note[here] is None or self.note[there] is None:
                loose.append((here, there))
        return loose

    def likely(self, cell):
        """What is taken to stand in the cell, None if nothing is."""
        if self.note[cell] is None and self.at_home and self.home[cell] not in self.barred[cell]:
            return self.home[cell]
        return self.note[cell]

    def choice_in(self, couples):
        """The cell and the note that seem best to make the two cells of one of these couples alike."""
        found = []
        for couple in couples:
            for cell, other in (couple, couple[::-1]):
                if self.note[cell] is None:
                    alone = self.note[other] is None
                    notes = self.choices(cell) if alone else [self.note[other]]
                    found += [(self.cost(cell, note), alone, cell, note) for note in notes
                              if note not in self.barred[cell]]
        if not found:
            left = [end for couple in couples for end in couple if self.note[end] is None]
            return (left[0], self.choices(left[0])[0])
        return min(found)[2:]

    def cost(self, cell, note):
        """1 for what the table that is given would rather not have there, 0 for all else."""
        if self.home is None:
            return 0
        if self.apart:
            return 1 if self.unlike == 0 and note == self.home[cell] else 0
        return 1 if note != self.home[cell] else 0

    def ways_on(self):
        """For each cell the notes that may come there when all sendings are parted."""
        return [[note] if note is not None else self.choices(cell) for cell, note in enumerate(self.note)]

    def fit(self):
        """The Table that was found."""
        notes = []
        for cell, choices in enumerate(self.ways_on()):
            note = self.likely(cell)
            notes.append(choices[0] if note is None else note)
        return self.table_of(notes)

    def table_of(self, notes):
        """The Table with these notes, one for each cell."""
        starts = range(0, len(notes), self.rooms)
        return Table(self.sends, self.takes, tuple([tuple(notes[at:at + self.rooms]) for at in starts]))
