"""Home trees, by which all walks of all rules come home, and wheels, by which some go round for ever."""

from onestory.errors import BadTold, TooMany
from onestory.fine import first_pair
from onestory.shapes import is_below, is_row, rows
from onestory.stories import all_rules
from onestory.tables import need_table
from onestory.walks import walked

MOST_RULES = 4096


def is_told(table, thing):
    """Whether any value is a dict from pairs of a room and a note of it to numbers that the room can send."""
    if not isinstance(thing, dict):
        return False
    return all([is_hearing(table, pair) and is_below(number, table.sends[pair[0]]) for pair, number in thing.items()])


def is_hearing(table, thing):
    """Whether any value is a pair of a room and a note that it can receive."""
    if not isinstance(thing, tuple) or len(thing) != 2:
        return False
    return is_below(thing[0], len(table.sends)) and is_below(thing[1], table.takes[thing[0]])


def basin(table, told):
    """The ascending list of the sendings that are left when those that answer none that is left are taken away."""
    need_table(table)
    if not is_told(table, told):
        raise BadTold("no dict from pairs of a room and a note to numbers that the room can send")
    return members(table, basin_of(table, told, everything(table)))


# A set of sendings is a number here: the bit at an index tells whether the sending there is in it.


def everything(table):
    return (1 << len(table.notes)) - 1


def members(table, bits):
    """The ascending list of the sendings in the set."""
    return [sent for at, sent in enumerate(rows(table.sends)) if bits >> at & 1]


def sending_bits(table, room, number):
    """The set of all sendings in which the room sends this number."""
    return sum([1 << at for at, sent in enumerate(rows(table.sends)) if sent[room] == number])


def answers(table, told):
    """For each sending the set of its possible answers."""
    sent_bits = {pair: sending_bits(table, pair[0], number) for pair, number in told.items()}
    found = []
    for received in table.notes:
        bits = everything(table)
        for pair in enumerate(received):
            bits = bits & sent_bits.get(pair, bits)
        found.append(bits)
    return found


def basin_of(table, told, within):
    """The set of the basin, which is sought within a set that has all of it; what is passed is not checked."""
    answered = answers(table, told)
    left = within
    while True:
        reached = 0
        for at, bits in enumerate(answered):
            if left >> at & 1:
                reached = reached | bits
        if left & reached == left:
            return left
        left = left & reached


def is_home_tree(table, thing):
    """Whether any value is a home tree of the table."""
    need_table(table)
    return is_home_tree_of(table, {}, everything(table), thing)


def is_home_tree_of(table, told, within, thing):
    """Whether any value is a home tree for what is told on the way to it, with a basin within this set."""
    if not isinstance(thing, tuple) or len(thing) not in (2, 4):
        return False
    left = basin_of(table, told, within)
    if len(thing) == 2:
        return thing[0] == "home" and is_row(thing[1], table.sends) and members(table, left) == [thing[1]]
    word, room, note, trees = thing
    if word != "tell" or not is_hearing(table, (room, note)) or (room, note) in told:
        return False
    if not isinstance(trees, tuple) or len(trees) != table.sends[room]:
        return False
    return all([is_home_tree_of(table, told_too(told, room, note, number), left, tree)
                for number, tree in enumerate(trees)])


def told_too(told, room, note, number):
    """What is told if the room sends the number for this note, too."""
    more = {pair: told[pair] for pair in told}
    more[(room, note)] = number
    return more


def need_few(table):
    need_table(table)
    if all_rules(table) > MOST_RULES:
        raise TooMany(MOST_RULES)


def home_tree(table):
    """A home tree, None if there is none."""
    need_few(table)
    return tree_of(table, {}, everything(table), choices(table))


def choices(table):
    """The list of all pairs of a room that can send two numbers or more and a note that it receives somewhere."""
    found = sorted(set([pair for received in table.notes for pair in enumerate(received)]))
    return [(room, note) for room, note in found if table.sends[room] > 1]


def tree_of(table, told, within, left):
    """A home tree for what is told, if only these pairs are left to be told; None if there is none."""
    # Any order will do: if all walks come home by what is told whole, each basin there has one sending.
    bits = basin_of(table, told, within)
    homes = members(table, bits)
    if len(homes) == 1:
        return ("home", homes[0])
    if not left:
        return None
    room, note = left[0]
    trees = []
    for number in range(table.sends[room]):
        tree = tree_of(table, told_too(told, room, note, number), bits, left[1:])
        if tree is None:
            return None
        trees.append(tree)
    return ("tell", room, note, tuple(trees))


def wheel(table):
    """A wheel of the table, None if there is none."""
    need_few(table)
    pair = first_pair(table)
    if pair is not None:
        return [pair[0], pair[1]]
    return wheel_of(table, {}, everything(table), choices(table))


def wheel_of(table, told, within, left):
    """A wheel of some rules by which what is told is so, if only these pairs are left to be told; None if none."""
    bits = basin_of(table, told, within)
    homes = members(table, bits)
    if len(homes) == 1:
        return None
    if not left:
        return round_of(table, told, homes)
    room, note = left[0]
    for number in range(table.sends[room]):
        found = wheel_of(table, told_too(told, room, note, number), bits, left[1:])
        if found is not None:
            return found
    return None


def round_of(table, told, homes):
    """The first round of two sendings or more to which a walk from one of these comes by what is told."""
    rules = [tuple([told.get((room, note), 0) for note in range(taken)]) for room, taken in enumerate(table.takes)]
    rounds = [walked(table, tuple(rules), sent)[1] for sent in homes]
    # A fine table has one story alone, so two sendings that come again and again make a round of more.
    return [sendings for sendings in rounds if len(sendings) > 1][0]
