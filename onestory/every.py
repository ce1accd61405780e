"""All fits that a search can find, one after another."""

from onestory.shapes import multiplied


def every_fit(search, most):
    """The list of the notes of all fits, in some order; None if there are more than most."""
    search.proving = False
    search.at_home = False
    found = []
    clash = search.settle([])
    while True:
        choice = None if clash is not None else search.choice()
        if choice is not None:
            clash = search.choose(choice)
            continue
        if clash is None:
            ways = search.ways_on()
            if len(found) + multiplied([len(choices) for choices in ways]) > most:
                return None
            found.extend(all_of(ways))
        if not search.marks:
            return found
        clash = other_way(search)


def all_of(ways):
    """All lists with one of the choices for each cell."""
    found = [[]]
    for choices in ways:
        found = [row + [note] for row in found for note in choices]
    return found


def other_way(search):
    """Takes back the last choice and bars what was chosen; something if that clashes, or None."""
    cell = search.trail[search.marks[-1]][0]
    note = search.note[cell]
    search.go_back(len(search.marks) - 1)
    clash = search.bar(cell, note, ("out", 0))
    return search.spread() if clash is None else clash
