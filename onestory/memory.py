"""Guesses at a sketch of which few pairs are kept in mind at once: those that last, and those that are given up.

A guess is told by a key here, as in a search: an ascending tuple of pairs of a cell's number and a note.
"""

from onestory.search import Search
from onestory.shapes import place


class Memory:
    """All guesses of at most so many pairs, sifted."""

    def __init__(self, sketch, kept):
        self.kept = kept
        self.search = Search(sketch)
        # For each guess that is given up a part of it, perhaps itself, that has a step: a rank and a reason.
        self.gone = {}
        self.steps = {}
        self.lasting = self.all_keys()
        self.give_up_dead()
        self.give_up_stuck()

    def all_keys(self):
        """The list of all guesses, those of fewer pairs first."""
        found = [()]
        last = [()]
        for _ in range(self.kept):
            last = [key + ((cell, note),) for key in last for cell in unknown_cells(self.search, ())
                    if not key or key[-1][0] < cell for note in range(self.search.takes_of(cell))]
            found = found + last
        return found

    def give_up(self, key, rank, why):
        self.gone[key] = key
        self.steps[key] = (rank, why)

    def give_up_dead(self):
        """Gives up what makes a dead pair."""
        for key in self.lasting:
            self.follow_parts(key)
            pair = None if key in self.gone else dead_behind(self.search, key)
            if pair is not None:
                self.give_up(key, 0, ("pair", pair))
        self.lasting = [key for key in self.lasting if key not in self.gone]

    def follow_parts(self, key):
        """Gives up a guess if a part of it that is less by one pair is given up, for the same step."""
        for part in parts(key):
            if part in self.gone:
                self.gone[key] = self.gone[part]

    def give_up_stuck(self):
        """Gives up, again and again, what cannot go on in some cell."""
        rank = 1
        stuck = self.all_stuck()
        while stuck:
            for key, cell in stuck:
                self.give_up(key, rank, ("cell", cell))
            for key in self.lasting:
                if key not in self.gone:
                    self.follow_parts(key)
            self.lasting = [key for key in self.lasting if key not in self.gone]
            rank += 1
            stuck = self.all_stuck()

    def all_stuck(self):
        """The list of the guesses that last but cannot go on in some cell, each with the first such cell."""
        found = [(key, self.stuck_cell(key)) for key in self.lasting if len(key) < self.kept]
        return [(key, cell) for key, cell in found if cell is not None]

    def stuck_cell(self, key):
        for cell in unknown_cells(self.search, key):
            if all([more in self.gone for more in further(self.search, key, cell)]):
                return cell
        return None

    def used_steps(self):
        """The dict of the steps of which the empty guess is given up."""
        found = {}
        waiting = [()]
        while waiting:
            key = waiting.pop()
            if key not in found:
                found[key] = self.steps[key]
                word, cell = self.steps[key][1]
                if word == "cell":
                    waiting.extend([self.gone[more] for more in further(self.search, key, cell)])
        return found


def unknown_cells(search, key):
    """The ascending list of the cells that are unknown with this guess."""
    told = dict(key)
    return [cell for cell, unknown in enumerate(search.unknown) if unknown and cell not in told]


def parts(key):
    """The guesses that are less by one pair."""
    return [key[:at] + key[at + 1:] for at in range(len(key))]


def further(search, key, cell):
    """The guesses with each of the notes of this cell in addition."""
    return [tuple(sorted(key + ((cell, note),))) for note in range(search.takes_of(cell))]


def dead_behind(search, key):
    """The first pair of sendings that is dead with this guess, but not without its last pair; None if there is none."""
    told = dict(key)
    pairs = search.pairs_of[key[-1][0]] if key else list(range(len(search.pairs)))
    for pair in pairs:
        if is_dead_with(search, told, pair):
            return pair
    return None


def is_dead_with(search, told, pair):
    for here, there in search.pairs[pair]:
        one = told.get(here, search.note[here])
        other = told.get(there, search.note[there])
        if one is None or other is None or one == other:
            return False
    return True


def key_of_guess(sketch, guess):
    """The key of a guess."""
    rooms = len(sketch.sends)
    return tuple([(place(sketch.sends, sent) * rooms + room, note) for (sent, room), note in guess])


def lasts_among(search, standing, key, kept):
    """Whether a guess makes no dead pair, its parts are among those that stand, and for each cell one that goes on."""
    if not all([part in standing for part in parts(key)]) or dead_behind(search, key) is not None:
        return False
    if len(key) == kept:
        return True
    return all([any([more in standing for more in further(search, key, cell)]) for cell in unknown_cells(search, key)])
