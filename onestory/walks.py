"""Walks, in which all rooms answer at once again and again, and wheels, in which they go round."""

from itertools import combinations

from onestory.errors import BadSparks, BadWheel
from onestory.shapes import MOST_ROOMS, is_row, rows
from onestory.stories import need_rules, replies
from onestory.tables import Table, brought, need_sending, need_table


def walk(table, rules, sending):
    """The sendings to which a walk comes once, and those to which it comes again and again."""
    need_table(table)
    need_rules(table, rules)
    need_sending(table, sending)
    return walked(table, rules, sending)


def walked(table, rules, sending):
    """The way and the round of a walk; what is passed is not checked."""
    seen = []
    sent = sending
    while sent not in seen:
        seen.append(sent)
        sent = replies(rules, brought(table, sent))
    at = seen.index(sent)
    return (seen[:at], seen[at:])


def is_wheel(table, thing):
    """Whether any value is a list of two or more different sendings that some rules answer in turn."""
    need_table(table)
    if not isinstance(thing, (list, tuple)) or len(thing) < 2:
        return False
    if not all([is_row(sent, table.sends) for sent in thing]) or len(set(thing)) < len(thing):
        return False
    lines = turns_of(table, thing)
    return all([agree(one, other) for one, other in combinations(lines, 2)])


def turns_of(table, wheel):
    """For each sending of a wheel what the rooms receive there, and what they send in the one that follows."""
    following = wheel[1:] + wheel[:1]
    return [(brought(table, sent), then) for sent, then in zip(wheel, following)]


def agree(one, other):
    """Whether each room that receives the same in two turns sends the same in what follows."""
    here, then = one
    there, behind = other
    return all([then[room] == behind[room] for room, note in enumerate(here) if note == there[room]])


def wheel_rules(table, wheel):
    """The rules by which the sendings of the wheel answer each other in turn, 0 for what is not received there."""
    if not is_wheel(table, wheel):
        raise BadWheel("no wheel of the table")
    rules = [[0] * taken for taken in table.takes]
    for received, then in turns_of(table, wheel):
        for room, note in enumerate(received):
            rules[room][note] = then[room]
    return tuple([tuple(rule) for rule in rules])


def are_sparks(thing):
    """Whether any value is a tuple of one to six tuples with as many numbers 0 or 1 each."""
    if not isinstance(thing, tuple) or not 1 <= len(thing) <= MOST_ROOMS:
        return False
    return all([is_row(spark, (2,) * len(thing)) for spark in thing])


def spark_table(sparks):
    """The Table in which each room receives 1 exactly if all others send what its spark tells of them."""
    if not are_sparks(sparks):
        raise BadSparks("no tuple of one to six sparks")
    sizes = (2,) * len(sparks)
    return Table(sizes, sizes, tuple([sparked(sparks, sent) for sent in rows(sizes)]))


def sparked(sparks, sent):
    return tuple([1 if is_spark(spark, room, sent) else 0 for room, spark in enumerate(sparks)])


def is_spark(spark, room, sent):
    return all([number == spark[other] for other, number in enumerate(sent) if other != room])
