"""Safe ways from rules to rules of a fine table: passages, or fences; how often the story changes, or heights."""

from onestory.errors import BadMost, BadNumber, NotSafe
from onestory.fine import need_fine
from onestory.reach import is_shore, need_safe, shore, steps_from, way_to
from onestory.shapes import is_below, is_number, is_row, put_in
from onestory.stories import all_stories, are_rules_of, need_rules, replies
from onestory.tables import brought, need_sending

NUMBERS = 100


def need_sendings(table, one, other):
    need_fine(table)
    need_sending(table, one)
    need_sending(table, other)


def need_safe_rules(table, safe, rules):
    """The story of the rules, which must be safe."""
    need_rules(table, rules)
    story = all_stories(table, rules)[0]
    if story not in safe:
        raise NotSafe("the story is not safe")
    return story


def need_most(table, most):
    if not is_number(most) or not 1 <= most <= len(table.sends):
        raise BadMost("no number from 1 to the number of rooms")


def need_ends(table, safe, start, goal):
    """The stories of start and goal, when the table and all these are as they must be."""
    need_fine(table)
    need_safe(table, safe)
    return (need_safe_rules(table, safe, start), need_safe_rules(table, safe, goal))


def need_number(number):
    if not is_below(number, NUMBERS):
        raise BadNumber("no number from 0 to 99")


def parting_rooms(table, one, other):
    """The ascending tuple of the rooms that part two sendings."""
    here = brought(table, one)
    there = brought(table, other)
    return tuple([room for room, note in enumerate(here) if one[room] != other[room] and note == there[room]])


def parting(table, one, other):
    """The ascending tuple of the rooms that part the two sendings."""
    need_sendings(table, one, other)
    return parting_rooms(table, one, other)


def near_by(table, safe, most):
    """The dict from the sendings of safe to those of safe from which at most so many rooms part them."""
    return {one: [other for other in safe if len(parting_rooms(table, one, other)) <= most] for one in safe}


def binding_step(table, one, other):
    """Rules with the story one, and rules with the story other, which are unlike in the rooms of parting alone."""
    need_sendings(table, one, other)
    first = readied(table, steady(table, one), one, other)[-1]
    return (first, stepped(table, first, one, other, steady(table, other)))


def steady(table, story):
    """The rules by which each room always sends what it does in the story."""
    return tuple([(number,) * taken for number, taken in zip(story, table.takes)])


def readied(table, rules, one, other):
    """The list of rules from these, with the story one, by one room each, to such as binding_step begins with."""
    parts = parting_rooms(table, one, other)
    there = brought(table, other)
    found = [rules]
    for room, number in enumerate(other):
        if room not in parts and found[-1][room][there[room]] != number:
            # What the room sends for what it receives at one stays: it receives otherwise, or sends the same.
            found.append(put_in(found[-1], room, put_in(found[-1][room], there[room], number)))
    return found


def stepped(table, rules, one, other, goal):
    """The rules in which the rooms of parting have those of the goal, which are rules with the story other."""
    parts = parting_rooms(table, one, other)
    return tuple([goal[room] if room in parts else rule for room, rule in enumerate(rules)])


def is_binding_step(table, one, other, thing):
    """Whether any value is such a pair of rules."""
    need_sendings(table, one, other)
    if not isinstance(thing, tuple) or len(thing) != 2 or not all([are_rules_of(table, rules) for rules in thing]):
        return False
    first, second = thing
    if replies(first, brought(table, one)) != one or replies(second, brought(table, other)) != other:
        return False
    parts = parting_rooms(table, one, other)
    return all([first[room] == second[room] for room in range(len(one)) if room not in parts])


def passage(table, safe, start, goal, most):
    """A list of rules from start to goal on which the story changes as seldom as can be; None if there is none."""
    here, there = need_ends(table, safe, start, goal)
    need_most(table, most)
    way = way_to(steps_from(near_by(table, safe, most), here), there)
    if way is None:
        return None
    found = [start]
    for one, other in zip(way[:-1], way[1:]):
        found = found + readied(table, found[-1], one, other)[1:]
        found.append(stepped(table, found[-1], one, other, goal if other == there else steady(table, other)))
    return found + bound_on(found[-1], goal)


def bound_on(rules, goal):
    """The list of the rules that come of these when, one after another, each room that has another one gets the goal's.

    Both have the same story, so all between have it, too.
    """
    found = []
    now = rules
    for room, rule in enumerate(goal):
        if now[room] != rule:
            now = put_in(now, room, rule)
            found.append(now)
    return found


def unlike_rooms(rules, others):
    return len([1 for rule, other in zip(rules, others) if rule != other])


def is_passage(table, safe, start, goal, most, thing):
    """Whether any value is a list of rules from start to goal with safe stories, with few rooms unlike in each step."""
    need_ends(table, safe, start, goal)
    need_most(table, most)
    if not isinstance(thing, (list, tuple)) or len(thing) == 0 or not all([are_rules_of(table, one) for one in thing]):
        return False
    if thing[0] != start or thing[-1] != goal:
        return False
    if not all([unlike_rooms(one, other) <= most for one, other in zip(thing[:-1], thing[1:])]):
        return False
    return all([all_stories(table, rules)[0] in safe for rules in thing])


def fence(table, safe, start, goal, most):
    """What can be reached from the story of start, and not that of goal; None if there is a passage."""
    here, there = need_ends(table, safe, start, goal)
    need_most(table, most)
    return shore(near_by(table, safe, most), here, there)


def is_fence(table, safe, start, goal, most, thing):
    """Whether any value is a tuple of sendings from which no step of at most so many rooms leads out."""
    here, there = need_ends(table, safe, start, goal)
    need_most(table, most)
    return is_shore(table, near_by(table, safe, most), here, there, thing)


def changes_to(table, safe, here, most):
    """The dict from the sendings to which passages lead to how often the story changes, at least."""
    ahead = steps_from(near_by(table, safe, most), here)
    found = {}
    for sent, before in ahead.items():
        found[sent] = 0 if before is None else found[before] + 1
    return found


def heights(table, safe, start, goal, most, number):
    """Heights for the number; None if there is a passage on which the story changes less often."""
    here, there = need_ends(table, safe, start, goal)
    need_most(table, most)
    need_number(number)
    changes = changes_to(table, safe, here, most)
    if changes.get(there, number) < number:
        return None
    return {sent: min(changes.get(sent, number), number) for sent in safe}


def are_heights(table, safe, start, goal, most, number, thing):
    """Whether any value is heights for the number."""
    here, there = need_ends(table, safe, start, goal)
    need_most(table, most)
    need_number(number)
    if not isinstance(thing, dict) or len(thing) != len(safe):
        return False
    if not all([is_row(sent, table.sends) and sent in safe and is_number(height) and height >= 0
                for sent, height in thing.items()]):
        return False
    if thing[here] != 0 or thing[there] < number:
        return False
    near = near_by(table, safe, most)
    return not [1 for one in safe for other in near[one] if thing[one] - thing[other] > 1]


def fewest_changes(table, safe, start, goal, most):
    """How often the story changes on a passage, at least; None if there is none."""
    here, there = need_ends(table, safe, start, goal)
    need_most(table, most)
    return changes_to(table, safe, here, most).get(there)


def least_most(table, safe, start, goal):
    """The least number of rooms for which there is a passage."""
    here, there = need_ends(table, safe, start, goal)
    most = 1
    while shore(near_by(table, safe, most), here, there) is not None:
        most += 1
    return most
