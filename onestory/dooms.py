"""Dooms of sketches, with the further reasons of other papers: made of what a search gave up, and judged."""

from onestory.fine import is_pair
from onestory.shapes import is_number, place, rows
from onestory.sketches import is_cell, is_dead, is_guess, note_in


def doom_of(search):
    """The ascending dict of the steps of a search that came to nothing, as a doom has them."""
    return told_steps(search, steps_used(search))


def told_steps(search, steps):
    """The ascending dict of the steps of a search, as a doom has them."""
    lines = rows(search.sends)
    return {guess_of(search, lines, key): (steps[key][0], reason_of(search, lines, steps[key][1]))
            for key in sorted(steps)}


def steps_used(search):
    """The dict of the steps of which the empty key comes."""
    found = {}
    waiting = [()]
    while waiting:
        key = waiting.pop()
        if key not in found:
            found[key] = search.steps[key]
            waiting.extend(search.steps[key][2])
    return found


def reason_of(search, lines, why):
    word, thing = why
    if word == "pair":
        return ("pair", search.ends[thing][0], search.ends[thing][1])
    if word == "cell":
        return ("cell", cell_of(search, lines, thing))
    return (word,)


def cell_of(search, lines, cell):
    return (lines[cell // search.rooms], cell % search.rooms)


def guess_of(search, lines, key):
    return tuple([(cell_of(search, lines, cell), note) for cell, note in key])


def sendings_used(search):
    """The sendings in the dead pairs of a search that came to nothing."""
    found = []
    for _, why, _ in list(steps_used(search).values()):
        if why[0] == "pair":
            found = found + list(search.ends[why[1]])
    return found


def is_doom_of(sketch, thing, is_end):
    """Whether any value is a doom of the sketch, which may also have the reasons that is_end(guess, reason) tells."""
    if not isinstance(thing, dict) or () not in thing:
        return False
    if not all([is_guess(sketch, guess) and is_step(step) for guess, step in thing.items()]):
        return False
    tree = tree_of(thing)
    return all([is_end(guess, reason) or is_dead_end(sketch, dict(guess), reason)
                or goes_on(sketch, tree, guess, rank, reason) for guess, (rank, reason) in thing.items()])


def tree_of(thing):
    """The guesses of a doom as a tree of dicts: from each pair to what may follow it, from None to the rank."""
    top = {}
    for guess, (rank, _) in thing.items():
        node = top
        for pair in guess:
            node = node.setdefault(pair, {})
        node[None] = rank
    return top


def is_step(thing):
    """Whether any value is a pair of a rank and a tuple."""
    if not isinstance(thing, tuple) or len(thing) != 2:
        return False
    return is_number(thing[0]) and thing[0] >= 0 and isinstance(thing[1], tuple)


def no_end(guess, reason):
    """A doom has no further reasons."""
    return False


def is_dead_end(sketch, told, reason):
    """Whether a tuple tells a dead pair of the sketch with these notes in these cells."""
    if len(reason) != 3 or reason[0] != "pair" or not is_pair(sketch, reason[1:]):
        return False
    return is_dead(line_with(sketch, told, reason[1]), line_with(sketch, told, reason[2]))


def line_with(sketch, told, sent):
    """The sending and what is known of its delivery, with these notes in these cells."""
    received = sketch.notes[place(sketch.sends, sent)]
    return (sent, [told.get((sent, room), note) for room, note in enumerate(received)])


def goes_on(sketch, tree, guess, rank, reason):
    """Whether a tuple tells a cell each note of which leads to a guess of a lesser rank."""
    if len(reason) != 2 or reason[0] != "cell" or not is_cell(sketch, reason[1]):
        return False
    cell = reason[1]
    if note_in(sketch, cell) is not None or cell in dict(guess):
        return False
    return all([has_part(tree, sorted(guess + ((cell, note),)), rank) for note in range(sketch.takes[cell[1]])])


def has_part(tree, pairs, rank):
    """Whether some guess of a lesser rank has no pair but these."""
    waiting = [(tree, 0)]
    while waiting:
        node, start = waiting.pop()
        if node.get(None, rank) < rank:
            return True
        waiting.extend([(node[pairs[at]], at + 1) for at in range(start, len(pairs)) if pairs[at] in node])
    return False
