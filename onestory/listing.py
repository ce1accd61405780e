"""Fine tables layer by layer: a room put into fine tables of the others; all fine tables, counted and listed."""

from onestory.closings import need_others
from onestory.errors import BadLayers, BadNotes, BadPlace, BadTake, BadWishes, TooMany
from onestory.fine import is_fine, need_fine
from onestory.renamings import need_few, need_sizes, notes_alike
from onestory.shapes import (MOST_NUMBERS, MOST_ROOMS, MOST_SENDINGS, bits_by, is_below, is_number, is_row, joined,
                             multiplied, powered, rows, without)
from onestory.smaller import held_table
from onestory.tables import Table, brought, need_room, need_table
from onestory.ties import all_classes, chain_end, note_at_rest, shortest_chain

MOST_TUPLES = 20000
MOST_TABLES = 2000


def layers_of(table, room):
    """For each number that the room can send, the Table of the others in which it always sends this."""
    need_table(table)
    need_room(table, room)
    need_others(table)
    return layers_at(table, room)


def layers_at(table, room):
    return tuple([held_table(table, room, sent) for sent in range(table.sends[room])])


def are_layers(thing):
    """Whether any value is a tuple of Tables of equal sizes that leave place for one more room."""
    if not isinstance(thing, tuple) or not thing or not all([isinstance(layer, Table) for layer in thing]):
        return False
    first = thing[0]
    if not all([layer.sends == first.sends and layer.takes == first.takes for layer in thing]):
        return False
    return len(first.sends) < MOST_ROOMS and multiplied(first.sends) * len(thing) <= MOST_SENDINGS


def need_layers(layers):
    if not are_layers(layers):
        raise BadLayers("no tuple of Tables that can be layers")


def need_fine_layers(layers):
    for layer in layers:
        need_fine(layer)


def need_place(layers, place):
    if not is_below(place, len(layers[0].sends) + 1):
        raise BadPlace("no place among or behind the rooms")


def need_take(take):
    if not is_number(take) or not 1 <= take <= MOST_NUMBERS:
        raise BadTake("no number from 1 to 64")


def need_wishes(layers, take, wishes):
    sends = layers[0].sends
    if not isinstance(wishes, dict) or not all([is_row(sent, sends) and is_below(note, take)
                                                for sent, note in wishes.items()]):
        raise BadWishes("no dict from sendings to notes")


def notes_of(layers):
    return [layer.notes for layer in layers]


def lots_of(layers):
    """The ascending list of the classes of the layers, ascending tuples of sendings."""
    rests = rows(layers[0].sends)
    return [tuple([rests[at] for at in places]) for places in all_classes(rests, notes_of(layers))]


def layer_classes(layers):
    """The ascending list of the classes of sendings between which chains of ties lead."""
    need_layers(layers)
    need_fine_layers(layers)
    return lots_of(layers)


def put_together(layers, place, take, told):
    """The Table of one room more, which receives what is told for what the others send."""
    first = layers[0]
    sends = joined(place, len(layers), first.sends)
    notes = []
    for sent in rows(sends):
        rest = without(place, sent)
        notes.append(joined(place, told[rest], brought(layers[sent[place]], rest)))
    return Table(sends, joined(place, take, first.takes), tuple(notes))


def told_by_class(lots, notes):
    return {rest: note for lot, note in zip(lots, notes) for rest in lot}


def room_in(layers, place, take, notes):
    """The Table of one room more, which sends one number for each layer and receives its notes class by class."""
    need_layers(layers)
    need_place(layers, place)
    need_take(take)
    lots = lots_of(layers)
    if not is_row(notes, (take,) * len(lots)):
        raise BadNotes("no tuple with a note for each class")
    need_fine_layers(layers)
    return put_together(layers, place, take, told_by_class(lots, notes))


def need_all_wishes(layers, place, take, wishes):
    need_layers(layers)
    need_place(layers, place)
    need_take(take)
    need_wishes(layers, take, wishes)
    need_fine_layers(layers)


def wished(layers, place, take, wishes):
    """A fine Table with these layers in which the room at this place receives what is wished; None if there is none."""
    need_all_wishes(layers, place, take, wishes)
    lots = lots_of(layers)
    notes = []
    for lot in lots:
        wanted = [wishes[rest] for rest in lot if rest in wishes]
        if [1 for note in wanted if note != wanted[0]]:
            return None
        notes.append(wanted[0] if wanted else 0)
    return put_together(layers, place, take, told_by_class(lots, notes))


def is_wished(layers, place, take, wishes, thing):
    """Whether any value is such a Table as wished returns."""
    need_all_wishes(layers, place, take, wishes)
    if not isinstance(thing, Table) or thing.sends != joined(place, len(layers), layers[0].sends):
        return False
    if thing.takes != joined(place, take, layers[0].takes) or layers_at(thing, place) != layers:
        return False
    return is_fine(thing) and all([note_at_rest(thing, place, rest) == note for rest, note in wishes.items()])


def wish_chain(layers, take, wishes):
    """A key and a chain from it to a key with another wish; None if there is a Table as wished."""
    need_layers(layers)
    need_take(take)
    need_wishes(layers, take, wishes)
    need_fine_layers(layers)
    rests = rows(layers[0].sends)
    for lot in lots_of(layers):
        keys = [rest for rest in lot if rest in wishes]
        others = [rest for rest in keys if wishes[rest] != wishes[keys[0]]]
        if others:
            links = shortest_chain(rests, notes_of(layers), rests.index(keys[0]), rests.index(others[0]))
            return (keys[0], links)
    return None


def is_wish_chain(layers, take, wishes, thing):
    """Whether any value is a key and a chain from it to a key with another wish."""
    need_layers(layers)
    need_take(take)
    need_wishes(layers, take, wishes)
    need_fine_layers(layers)
    if not isinstance(thing, tuple) or len(thing) != 2:
        return False
    key, links = thing
    if not is_row(key, layers[0].sends) or key not in wishes:
        return False
    rests = rows(layers[0].sends)
    there = chain_end(rests, notes_of(layers), rests.index(key), links)
    return there is not None and rests[there] in wishes and wishes[rests[there]] != wishes[key]


def fine_count(sends, takes):
    """How many fine Tables there are."""
    need_sizes(sends, takes)
    return count_fine(sends, takes)


def count_fine(sends, takes):
    if len(sends) == 1:
        return takes[0]
    if len(sends) == 2:
        # At most one of the two rooms hears the other.
        one, other = takes
        return one * other * (powered(one, sends[1] - 1) + powered(other, sends[0] - 1) - 1)
    fewer = count_fine(sends[:-1], takes[:-1])
    need_few_tuples(fewer, sends[-1])
    if sends[-1] == 1:
        # Nothing is tied within one fine layer: each sending is a class.
        return fewer * powered(takes[-1], multiplied(sends[:-1]))
    return sum([powered(takes[-1], many) * times
                for many, times in counted_classes(all_fine(sends[:-1], takes[:-1]), sends[-1])])


def need_few_tuples(fewer, times):
    many = 1
    for _ in range(times):
        many = many * fewer
        if many > MOST_TUPLES:
            raise TooMany(MOST_TUPLES)


def counted_classes(tables, times):
    """Pairs of a number of classes and how many tuples of so many of the tables have so many, by some ties each."""
    between = all_tied_bits(tables)
    tuples = [((), 0)]
    for _ in range(times):
        tuples = [(chosen + (at,), bits_with(between[at], chosen, bits))
                  for chosen, bits in tuples for at in range(len(tables))]
    counted = {}
    for _, bits in tuples:
        counted[bits] = counted.get(bits, 0) + 1
    size = len(tables[0].notes)
    return [(len(joined_lots(size, bits)), many) for bits, many in counted.items()]


def bits_with(ties, chosen, bits):
    for at in chosen:
        bits = bits | ties[at]
    return bits


def all_tied_bits(tables):
    """For each two of the tables the sendings that are tied if they are layers.

    The bit at place * sendings + other place tells whether a sending of the one and a sending of the other are.
    """
    rests = rows(tables[0].sends)
    sending = [bits_by(rests, room) for room in range(len(rests[0]))]
    received = [[bits_by(table.notes, room) for room in range(len(rests[0]))] for table in tables]
    return [[tied_bits(rests, table.notes, sending, notes) for notes in received] for table in tables]


def tied_bits(rests, notes, sending, received):
    """The sendings that two layers tie: the notes of the one, and sets by what is sent, and received in the other."""
    size = len(rests)
    bits = 0
    for at, rest in enumerate(rests):
        parted = 1 << at
        for room, number in enumerate(rest):
            parted = parted | received[room].get(notes[at][room], 0) & ~sending[room][number]
        bits = bits | ((1 << size) - 1 & ~parted) << at * size
    return bits


def joined_lots(size, bits):
    """The classes of so many rests, each told by bits, that these ties make."""
    whole = (1 << size) - 1
    lots = []
    for at in range(size):
        # What this one is tied to, with all lots that it meets.
        lot = bits >> at * size & whole | 1 << at
        apart = []
        for other in lots:
            if other & lot:
                lot = lot | other
            else:
                apart.append(other)
        lots = apart + [lot]
    return lots


def all_fine(sends, takes):
    """The list of all fine Tables, ascending by their notes; there must not be too many."""
    if len(sends) == 1:
        return [Table(sends, takes, ((note,),) * sends[0]) for note in range(takes[0])]
    tables = all_fine(sends[:-1], takes[:-1])
    found = []
    for chosen in rows((len(tables),) * sends[-1]):
        layers = [tables[at] for at in chosen]
        lots = lots_of(layers)
        for notes in rows((takes[-1],) * len(lots)):
            made = put_together(layers, len(sends) - 1, takes[-1], told_by_class(lots, notes))
            found.append(made.notes)
    return [Table(sends, takes, notes) for notes in sorted(found)]


def fine_tables(sends, takes):
    """The list of all fine Tables, ascending by their notes."""
    if fine_count(sends, takes) > MOST_TABLES:
        raise TooMany(MOST_TABLES)
    return all_fine(sends, takes)


def kinds(sends, takes):
    """The list of the first of each lot of fine Tables that are alike, ascending by their notes."""
    tables = fine_tables(sends, takes)
    need_few(sends, takes)
    seen = {}
    found = []
    for table in tables:
        # What is fine stays fine by other names, so the first that is new is the first of those alike.
        if table.notes not in seen:
            found.append(table)
            for notes in notes_alike(table):
                seen[notes] = True
    return found
