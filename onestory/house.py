"""A live house: a fine table whose rooms are bound, loosened and turned under a guard; all can be taken back."""

from onestory.clocks import hears
from onestory.closings import closed_in_turn, in_common, is_known, possible_lines
from onestory.errors import (BadBinding, BadNotes, BadRoom, BadRooms, BadSafe, BadSent, NotBound, NothingDone,
                             NothingUndone, Unsafe)
from onestory.fine import need_fine
from onestory.reach import are_safe
from onestory.shapes import is_below, is_row, put_in
from onestory.sketches import ascends
from onestory.tables import Table


def are_rooms(table, thing):
    """Whether any value is an ascending tuple, not empty, of different rooms."""
    if not isinstance(thing, tuple) or thing == ():
        return False
    return is_row(thing, (len(table.sends),) * len(thing)) and ascends(thing)


def told(deed):
    """The deed, with a dict of its own."""
    if deed[0] == "bind":
        return ("bind", {room: deed[1][room] for room in deed[1]})
    return deed


class House:
    """The deeds that stand, and what is so behind each of them: the table, the rules of the bound rooms, the guard."""

    def __init__(self, table):
        need_fine(table)
        self.begun = table
        self.deeds = []
        self.states = [(table, {}, None)]
        # What was taken back, the last one last: a deed and what is so behind it.
        self.undone = []

    def __eq__(self, other):
        return isinstance(other, House) and self.states[-1] == other.states[-1]

    def __len__(self):
        return len(self.deeds)

    def stand(self, deed, state):
        """Lets the deed stand if what is possible is safe then."""
        table, known, safe = state
        if safe is not None:
            for sent, _ in possible_lines(table, known):
                if sent not in safe:
                    raise Unsafe(sent)
        self.deeds.append(deed)
        self.states.append(state)
        self.undone = []

    def bind(self, rules):
        """Binds rooms by these rules, all at once."""
        table, known, safe = self.states[-1]
        if not is_known(table, rules) or not rules:
            raise BadBinding("no dict, not empty, from rooms to rules of them")
        now = {room: known[room] for room in known}
        for room in rules:
            now[room] = rules[room]
        self.stand(("bind", {room: rules[room] for room in sorted(rules)}), (table, now, safe))

    def loosen(self, rooms):
        """Makes these bound rooms free."""
        table, known, safe = self.states[-1]
        if not are_rooms(table, rooms):
            raise BadRooms("no ascending tuple, not empty, of different rooms")
        for room in rooms:
            if room not in known:
                raise NotBound(room)
        left = {room: known[room] for room in known if room not in rooms}
        self.stand(("loosen", rooms), (table, left, safe))

    def turn(self, room, notes):
        """Lets the room receive these notes, one for each sending."""
        table, known, safe = self.states[-1]
        if not is_below(room, len(table.sends)):
            raise BadRoom("no room of the table")
        if not is_row(notes, (table.takes[room],) * len(table.notes)):
            raise BadNotes("no tuple with a note for each sending")
        lines = [put_in(received, room, note) for received, note in zip(table.notes, notes)]
        other = Table(table.sends, table.takes, tuple(lines))
        need_fine(other)
        self.stand(("turn", room, notes), (other, known, safe))

    def guard(self, safe):
        """From now on just these sendings may be possible; all with None."""
        table, known, _ = self.states[-1]
        if safe is not None and not are_safe(table, safe):
            raise BadSafe("neither an ascending tuple of different sendings nor None")
        self.stand(("guard", safe), (table, known, safe))

    def undo(self):
        """Takes back the last deed that stands."""
        if not self.deeds:
            raise NothingDone("no deed stands")
        self.undone.append((self.deeds.pop(), self.states.pop()))

    def redo(self):
        """Does again what was taken back last."""
        if not self.undone:
            raise NothingUndone("nothing was taken back")
        deed, state = self.undone.pop()
        self.deeds.append(deed)
        self.states.append(state)

    def log(self):
        """The list of the deeds that stand."""
        return [told(deed) for deed in self.deeds]

    def copy(self):
        """An independent house with the same deeds, and the same to be done again."""
        other = House(self.begun)
        other.deeds = list(self.deeds)
        other.states = list(self.states)
        other.undone = list(self.undone)
        return other

    def table(self):
        """The table."""
        return self.states[-1][0]

    def bound(self):
        """The ascending dict from the bound rooms to their rules."""
        known = self.states[-1][1]
        return {room: known[room] for room in sorted(known)}

    def free(self):
        """The ascending list of the free rooms."""
        table, known, _ = self.states[-1]
        return [room for room in range(len(table.sends)) if room not in known]

    def guarded(self):
        """The guard, None if none stands."""
        return self.states[-1][2]

    def left(self):
        """The Table of the free rooms when all bound ones are closed, None if none is free."""
        table, known, _ = self.states[-1]
        if len(known) == len(table.sends):
            return None
        return ([table] + closed_in_turn(table, known, sorted(known)))[-1]

    def possible(self):
        """The ascending list of all possible sendings."""
        table, known, _ = self.states[-1]
        return [sent for sent, _ in possible_lines(table, known)]

    def story(self, sent):
        """The possible sending in which the free rooms send this."""
        table, known, _ = self.states[-1]
        free = [room for room in range(len(table.sends)) if room not in known]
        if not isinstance(sent, dict) or len(sent) != len(free) or not all([
                is_below(room, len(table.sends)) and room in free and is_below(number, table.sends[room])
                for room, number in sent.items()]):
            raise BadSent("no dict from just the free rooms to what they send")
        return [line for line, _ in possible_lines(table, known) if all([line[room] == sent[room] for room in free])][0]

    def sure(self):
        """The ascending dict from the rooms that receive the same in all possible sendings to what they receive."""
        table, known, _ = self.states[-1]
        common = in_common([received for _, received in possible_lines(table, known)])
        return {room: note for room, note in enumerate(common) if note is not None}

    def heard(self):
        """The ascending list of the pairs of free rooms, the one heard by the other, when all bound ones are closed."""
        table = self.left()
        if table is None:
            return []
        free = self.free()
        return [(free[one], free[other]) for one, other in hears(table)]
