"""Chances: how often which delivery comes of each sending; blends of tables."""

from math import gcd

from onestory.errors import BadBlend, BadChances, BadDelivery, BadRooms, BadSends, BadTakes, BadWeights
from onestory.shapes import are_sends, are_takes, is_below, is_number, is_row, multiplied, place, rows
from onestory.sketches import ascends
from onestory.stories import need_rules, replies
from onestory.tables import Table, need_sending, ring_table

MOST_BLENDED = 20
SHARES = 10000
MOST_ROOMS_IN_RING = 6


class Chances:
    """For each sending the deliveries that come of it, with their weights, in least numbers."""

    def __init__(self, sends, takes, weights):
        if not are_sends(sends):
            raise BadSends("no tuple of what one to six rooms can send")
        if not are_takes(takes, len(sends)):
            raise BadTakes("no tuple of what these rooms can receive")
        if not are_weights(sends, takes, weights):
            raise BadWeights("no tuple with deliveries and their weights for each sending")
        common = 0
        for pairs in weights:
            for _, many in pairs:
                common = gcd(common, many)
        self.sends = sends
        self.takes = takes
        self.weights = tuple([tuple([(received, many // common) for received, many in pairs]) for pairs in weights])
        self.total = sum_of(self.weights[0])

    def __eq__(self, other):
        return (isinstance(other, Chances) and self.sends == other.sends and self.takes == other.takes
                and self.weights == other.weights)


def sum_of(pairs):
    return sum([many for _, many in pairs])


def are_weights(sends, takes, thing):
    """Whether it is a tuple with deliveries and weights of the same sum for each sending."""
    if not isinstance(thing, tuple) or len(thing) != multiplied(sends):
        return False
    if not all([are_weighed(takes, pairs) for pairs in thing]):
        return False
    return all([sum_of(pairs) == sum_of(thing[0]) for pairs in thing])


def are_weighed(takes, thing):
    """Whether it is an ascending tuple of one or more pairs of different deliveries and weights."""
    if not isinstance(thing, tuple) or thing == () or not all([is_weighed(takes, pair) for pair in thing]):
        return False
    return ascends([received for received, _ in thing])


def is_weighed(takes, thing):
    if not isinstance(thing, tuple) or len(thing) != 2:
        return False
    return is_row(thing[0], takes) and is_number(thing[1]) and thing[1] >= 1


def need_chances(chances):
    if not isinstance(chances, Chances):
        raise BadChances("no Chances")


def is_blend(thing):
    """Whether any value is a list of one to 20 pairs of a share and a Table, all Tables of equal sizes."""
    if not isinstance(thing, (list, tuple)) or not 1 <= len(thing) <= MOST_BLENDED:
        return False
    if not all([is_blended(pair) for pair in thing]):
        return False
    first = thing[0][1]
    return all([table.sends == first.sends and table.takes == first.takes for _, table in thing])


def is_blended(thing):
    if not isinstance(thing, tuple) or len(thing) != 2:
        return False
    return is_below(thing[0], SHARES) and thing[0] >= 1 and isinstance(thing[1], Table)


def blended(blend):
    """The Chances in which a delivery weighs what the tables that bring it have as shares."""
    if not is_blend(blend):
        raise BadBlend("no list of shares and Tables")
    first = blend[0][1]
    weights = []
    for at in range(len(first.notes)):
        found = {}
        for share, table in blend:
            found[table.notes[at]] = found.get(table.notes[at], 0) + share
        weights.append(tuple([(received, found[received]) for received in sorted(found)]))
    return Chances(first.sends, first.takes, tuple(weights))


def odd_ring(rooms):
    """The blend of a ring of twos and of the table with each of its notes turned, half and half."""
    if not is_number(rooms) or not 2 <= rooms <= MOST_ROOMS_IN_RING:
        raise BadRooms("no number from 2 to 6")
    ring = ring_table((2,) * rooms)
    other = tuple([tuple([1 - note for note in received]) for received in ring.notes])
    return blended([(1, ring), (1, Table(ring.sends, ring.takes, other))])


def weights_at(chances, sending):
    """The deliveries that come of a sending, which is not checked, with their weights."""
    return chances.weights[place(chances.sends, sending)]


def weight(chances, sending, delivery):
    """The weight of the delivery at the sending, 0 if it does not come of it."""
    need_chances(chances)
    need_sending(chances, sending)
    if not is_row(delivery, chances.takes):
        raise BadDelivery("no tuple of what the rooms can receive")
    return dict(weights_at(chances, sending)).get(delivery, 0)


def cells(chances):
    """The ascending list of all pairs of a sending and a delivery with a weight."""
    need_chances(chances)
    return [cell for cell, _ in weighed_cells(chances)]


def weighed_cells(chances):
    """The ascending list of all pairs of a cell and its weight."""
    return [((sent, received), many) for sent, pairs in zip(rows(chances.sends), chances.weights)
            for received, many in pairs]


def story_weights(chances, rules):
    """The ascending dict from the sendings that are answers to what comes of them to how much they weigh."""
    need_chances(chances)
    need_rules(chances, rules)
    found = {}
    for (sent, received), many in weighed_cells(chances):
        if replies(rules, received) == sent:
            found[sent] = found.get(sent, 0) + many
    return found


def tally(chances, rules):
    """The sum of all story weights."""
    return sum(list(story_weights(chances, rules).values()))
