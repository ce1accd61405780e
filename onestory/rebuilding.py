"""Safe ways from a fine table and rules to others by binding and turning rooms: rebuildings, or moats."""

from onestory.fine import is_fine, need_two_fine
from onestory.leads import need_most, need_safe_rules, unlike_rooms
from onestory.reach import is_shore, need_safe, shore, steps_from, way_to
from onestory.shapes import put_in, rows
from onestory.stories import all_stories, are_rules_of
from onestory.tables import Table, need_table


def need_all(one, other, safe, start, goal, most):
    """The stories of start and goal, when all is as it must be."""
    need_two_fine(one, other)
    need_safe(one, safe)
    here = need_safe_rules(one, safe, start)
    there = need_safe_rules(other, safe, goal)
    need_most(one, most)
    return (here, there)


def deaf(table):
    return [room for room, taken in enumerate(table.takes) if taken == 1]


def deaf_rooms(table):
    """The ascending tuple of the rooms that can receive one note alone."""
    need_table(table)
    return tuple(deaf(table))


def near_deaf(table, safe, most):
    """The dict from the sendings of safe to those of safe from which they are unlike in at most so many deaf rooms."""
    rooms = deaf(table)
    return {one: [other for other in safe if len([1 for room in rooms if one[room] != other[room]]) <= most]
            for one in safe}


def rebuilding(one, other, safe, start, goal, most):
    """A list of pairs of a fine table and rules, from first to last in small safe steps; None if there is none."""
    here, there = need_all(one, other, safe, start, goal, most)
    way = way_to(steps_from(near_deaf(one, safe, most), here), there)
    if way is None:
        return None
    found = hushed_on(one, start, here)
    for sent, then in zip(way[:-1], way[1:]):
        found = found + led_on(found[-1], sent, then)
    # From quiet rooms to the last pair it goes as from the last pair to quiet rooms, the other way about.
    found = found + hushed_on(other, goal, there)[::-1]
    return found[:1] + [pair for before, pair in zip(found[:-1], found[1:]) if pair != before]


def hushed_on(table, rules, story):
    """The pairs from this one on, in which room after room receives 0 always and sends what it does in the story."""
    found = [(table, rules)]
    for room, number in enumerate(story):
        found.append(changed_pair(found[-1], room, [0] * len(table.notes), (number,) * table.takes[room]))
    return found


def changed_pair(pair, room, notes, rule):
    """The pair in which the room receives these notes, one for each sending, and has this rule."""
    table, rules = pair
    lines = tuple([put_in(received, room, note) for received, note in zip(table.notes, notes)])
    return (Table(table.sends, table.takes, lines), put_in(rules, room, rule))


def led_on(pair, sent, then):
    """The pairs behind a quiet one with the story sent, up to a quiet one with the story then.

    All unlike rooms that can receive two notes, but for the leader if none is deaf, are made to hear the leader, an
    unlike room; then it sends otherwise, with all other unlike deaf rooms; then the rooms are made quiet again.
    """
    table = pair[0]
    unlike = [room for room, number in enumerate(sent) if number != then[room]]
    together = [room for room in unlike if table.takes[room] == 1]
    if not together:
        together = unlike[:1]
    leader = together[0]
    led = [room for room in unlike if room not in together]
    found = [pair]
    heard = [1 if other[leader] == then[leader] else 0 for other in rows(table.sends)]
    for room in led:
        rule = (sent[room], then[room]) + (then[room],) * (table.takes[room] - 2)
        found.append(changed_pair(found[-1], room, heard, rule))
    rules = found[-1][1]
    for room in together:
        rules = put_in(rules, room, (then[room],) * table.takes[room])
    found.append((found[-1][0], rules))
    for room in led:
        found.append(changed_pair(found[-1], room, [0] * len(heard), (then[room],) * table.takes[room]))
    return found[1:]


def unlike_between(pair, then):
    """How many rooms have other rules in the two pairs, or receive another note at some sending, or both."""
    columns = list(zip(pair[1], by_room(pair[0])))
    return unlike_rooms(columns, list(zip(then[1], by_room(then[0]))))


def by_room(table):
    """For each room the list of what it receives, sending by sending."""
    return [[received[room] for received in table.notes] for room in range(len(table.sends))]


def is_safe_pair(one, safe, thing):
    """Whether any value is a pair of a fine table of these sizes and rules with a safe story."""
    if not isinstance(thing, tuple) or len(thing) != 2:
        return False
    table, rules = thing
    if not isinstance(table, Table) or table.sends != one.sends or table.takes != one.takes:
        return False
    return are_rules_of(table, rules) and is_fine(table) and all_stories(table, rules)[0] in safe


def is_rebuilding(one, other, safe, start, goal, most, thing):
    """Whether any value is a list of such pairs from the first to the last, with few rooms unlike in each step."""
    need_all(one, other, safe, start, goal, most)
    if not isinstance(thing, (list, tuple)) or len(thing) == 0:
        return False
    if not all([is_safe_pair(one, safe, pair) for pair in thing]):
        return False
    if thing[0] != (one, start) or thing[-1] != (other, goal):
        return False
    return all([unlike_between(pair, then) <= most for pair, then in zip(thing[:-1], thing[1:])])


def moat(one, other, safe, start, goal, most):
    """What can be reached from the story of start, and not that of goal; None if there is a rebuilding."""
    here, there = need_all(one, other, safe, start, goal, most)
    return shore(near_deaf(one, safe, most), here, there)


def is_moat(one, other, safe, start, goal, most, thing):
    """Whether any value is a tuple of sendings from which no step of at most so many deaf rooms leads out."""
    here, there = need_all(one, other, safe, start, goal, most)
    return is_shore(one, near_deaf(one, safe, most), here, there, thing)
