"""Tables by other names: renamings, and which tables are alike."""

from itertools import permutations

from onestory.errors import BadPaper, BadRenaming, BadSends, BadTakes, TooMany
from onestory.fine import is_paper
from onestory.shapes import are_sends, are_takes, is_row, multiplied, rows
from onestory.stories import need_rules
from onestory.tables import Table, need_same_sizes, need_sending, need_table

MOST_RENAMINGS = 20000


def need_sizes(sends, takes):
    if not are_sends(sends):
        raise BadSends("no tuple of what one to six rooms can send")
    if not are_takes(takes, len(sends)):
        raise BadTakes("no tuple of what these rooms can receive")


def is_order(thing, size):
    """Whether any value is a tuple with each number below the size once."""
    return is_row(thing, (size,) * size) and sorted(thing) == list(range(size))


def are_orders(thing, sizes):
    """Whether any value is a tuple with such a tuple for each of the sizes."""
    if not isinstance(thing, tuple) or len(thing) != len(sizes):
        return False
    return all([is_order(order, size) for order, size in zip(thing, sizes)])


def is_renaming_of(sends, takes, thing):
    """Whether any value is a renaming; what else is passed is not checked."""
    if not isinstance(thing, tuple) or len(thing) != 3:
        return False
    rooms, sent, received = thing
    return is_order(rooms, len(sends)) and are_orders(sent, sends) and are_orders(received, takes)


def need_renaming(sends, takes, renaming):
    if not is_renaming_of(sends, takes, renaming):
        raise BadRenaming("no renaming of these sizes")


def is_renaming(sends, takes, thing):
    """Whether any value is a renaming of what the rooms can send and receive."""
    need_sizes(sends, takes)
    return is_renaming_of(sends, takes, thing)


def no_renaming(sends, takes):
    """The renaming by which all keeps its name."""
    need_sizes(sends, takes)
    return (kept(len(sends)), tuple([kept(size) for size in sends]), tuple([kept(size) for size in takes]))


def kept(size):
    return tuple(range(size))


def moved(rooms, row):
    """The row in which what room k has is what the room has that k is called."""
    back = turned_round(rooms)
    return tuple([row[room] for room in back])


def turned_round(order):
    """The order that takes each number back: at order[k] stands k."""
    found = [0] * len(order)
    for at, number in enumerate(order):
        found[number] = at
    return tuple(found)


def called(names, row):
    """The row with all its numbers by the names of their rooms."""
    return tuple([order[number] for order, number in zip(names, row)])


def renamed_sizes(sends, takes, renaming):
    """The pair of sends and takes by the new names."""
    need_sizes(sends, takes)
    need_renaming(sends, takes, renaming)
    return (moved(renaming[0], sends), moved(renaming[0], takes))


def renaming_back(sends, takes, renaming):
    """The renaming by which all has its old name again."""
    need_sizes(sends, takes)
    need_renaming(sends, takes, renaming)
    rooms, sent, received = renaming
    return (turned_round(rooms), moved(rooms, [turned_round(order) for order in sent]),
            moved(rooms, [turned_round(order) for order in received]))


def renaming_on(sends, takes, renaming, then):
    """The renaming that does what one renaming and then what another one does."""
    need_sizes(sends, takes)
    need_renaming(sends, takes, renaming)
    need_renaming(moved(renaming[0], sends), moved(renaming[0], takes), then)
    rooms, sent, received = renaming
    return (tuple([then[0][room] for room in rooms]), on(rooms, sent, then[1]), on(rooms, received, then[2]))


def on(rooms, names, then):
    """For each room the names of its names, by what its new name is called then."""
    return tuple([tuple([then[room][number] for number in order]) for room, order in zip(rooms, names)])


def need_table_renaming(table, renaming):
    need_table(table)
    need_renaming(table.sends, table.takes, renaming)


def called_sending(rooms, names, sent):
    """A sending by the new names of the rooms and of what they send."""
    return moved(rooms, called(names, sent))


def renamed(table, renaming):
    """The Table by the new names."""
    need_table_renaming(table, renaming)
    return renamed_table(table, renaming)


def renamed_table(table, renaming):
    rooms, names, received = renaming
    lines = {called_sending(rooms, names, sent): moved(rooms, called(received, notes))
             for sent, notes in zip(rows(table.sends), table.notes)}
    return Table(moved(rooms, table.sends), moved(rooms, table.takes), tuple([lines[sent] for sent in sorted(lines)]))


def renamed_sending(table, renaming, sending):
    """The sending by the new names."""
    need_table_renaming(table, renaming)
    need_sending(table, sending)
    return called_sending(renaming[0], renaming[1], sending)


def renamed_rules(table, renaming, rules):
    """What the rooms send for their notes, by the new names."""
    need_table_renaming(table, renaming)
    need_rules(table, rules)
    rooms, sent, received = renaming
    return moved(rooms, [renamed_rule(sent[room], received[room], rule) for room, rule in enumerate(rules)])


def renamed_rule(sent, received, rule):
    return tuple([sent[rule[note]] for note in turned_round(received)])


def renamed_paper(table, renaming, paper):
    """The ascending dict from what the pairs of the paper go to, to what their rooms are called."""
    need_table_renaming(table, renaming)
    if not is_paper(table, paper):
        raise BadPaper("no paper of the table")
    rooms, names, _ = renaming
    found = {}
    for pair, room in paper.items():
        ends = sorted([called_sending(rooms, names, sent) for sent in pair])
        found[tuple(ends)] = rooms[room]
    return {pair: found[pair] for pair in sorted(found)}


def room_orders(sends, takes):
    """The ascending list of all namings of the rooms that keep the sizes."""
    many = len(sends)
    return [rooms for rooms in permutations(range(many))
            if moved(rooms, sends) == sends and moved(rooms, takes) == takes]


def count_keeping(sends, takes):
    return len(room_orders(sends, takes)) * multiplied([multiplied(list(range(1, size + 1))) for size in sends + takes])


def keeping_count(sends, takes):
    """How many renamings keep the sizes."""
    need_sizes(sends, takes)
    return count_keeping(sends, takes)


def need_few(sends, takes):
    if count_keeping(sends, takes) > MOST_RENAMINGS:
        raise TooMany(MOST_RENAMINGS)


def all_orders(size):
    """The ascending list of all tuples with each number below the size once."""
    return list(permutations(range(size)))


def one_of_each(ways):
    """The list of all tuples with one of the things of each list, in order."""
    found = [()]
    for things in ways:
        found = [row + (thing,) for row in found for thing in things]
    return found


def sendings_renamed(table):
    """The list of all pairs of namings, of the rooms and of what is sent, that keep the sizes."""
    names = one_of_each([all_orders(size) for size in table.sends])
    return [(rooms, sent) for rooms in room_orders(table.sends, table.takes) for sent in names]


def columns_by(table, rooms, sent):
    """For each room, by its old name, the notes that it receives by the renamed sendings, in their order."""
    lines = {called_sending(rooms, sent, old): received for old, received in zip(rows(table.sends), table.notes)}
    ordered = [lines[new] for new in sorted(lines)]
    return [[received[room] for received in ordered] for room in range(len(rooms))]


def renamings(one, other):
    """The ascending list of all renamings by which one table becomes the other."""
    need_table(one)
    need_table(other)
    need_same_sizes(one, other)
    need_few(one.sends, one.takes)
    found = []
    for rooms, sent in sendings_renamed(one):
        columns = columns_by(one, rooms, sent)
        ways = [orders_between(column, [received[rooms[room]] for received in other.notes], one.takes[room])
                for room, column in enumerate(columns)]
        found.extend([(rooms, sent, names) for names in one_of_each(ways)])
    return sorted(found)


def orders_between(column, wanted, size):
    """The list of all orders of so many notes by which one column becomes the other."""
    told = {}
    for note, name in zip(column, wanted):
        if told.setdefault(note, name) != name:
            return []
    return [order for order in all_orders(size) if all([order[note] == name for note, name in told.items()])]


def alike(one, other):
    """The first renaming by which one table becomes the other, None if there is none."""
    found = renamings(one, other)
    return found[0] if found else None


def likes(table):
    """The list of all Tables of the same sizes that the table becomes by renamings, ascending by their notes."""
    need_table(table)
    need_few(table.sends, table.takes)
    return [Table(table.sends, table.takes, notes) for notes in sorted(notes_alike(table))]


def notes_alike(table):
    """The dict, with True, of the notes of all those Tables."""
    found = {}
    for rooms, sent in sendings_renamed(table):
        ways = [renamed_columns(column, table.takes[room])
                for room, column in enumerate(columns_by(table, rooms, sent))]
        for columns in one_of_each(ways):
            by_room = moved(rooms, columns)
            found[tuple([tuple([column[at] for column in by_room]) for at in range(len(table.notes))])] = True
    return found


def renamed_columns(column, size):
    """The ascending list of the columns that this one becomes when its notes are renamed, each once."""
    return sorted(set([tuple([order[note] for note in column]) for order in all_orders(size)]))


def first_like(table):
    """The first of the Tables of the same sizes that the table becomes by renamings."""
    return likes(table)[0]
