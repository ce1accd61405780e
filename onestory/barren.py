"""Rules with two stories, and rules with none: what every table has that is not fine."""

from onestory.fine import first_pair, is_pair
from onestory.shapes import put_in
from onestory.smaller import closed_table, hearing_pair, keeping_rule
from onestory.stories import all_stories, are_rules_of, replies
from onestory.tables import brought, need_table


def two_stories(table):
    """Rules and two sendings that are stories of them; None if the table is fine."""
    pair = first_pair(table)
    if pair is None:
        return None
    one, other = pair
    rules = [keeping_rule(table, room, one, other) for room in range(len(table.sends))]
    return (tuple(rules), one, other)


def no_story(table):
    """Rules that have no story; None if the table is fine."""
    pair = first_pair(table)
    if pair is None:
        return None
    one, other = pair
    left = table
    rules = []
    found = first_self_pair(left)
    # Closed by a rule that keeps two unparted sendings, the table keeps them unlike and unparted; so at the latest
    # the last room hears itself.
    while found is None:
        rule = keeping_rule(left, 0, one, other)
        rules.append(rule)
        left = closed_table(left, 0, rule)
        one = one[1:]
        other = other[1:]
        found = first_self_pair(left)
    room, sent = found
    return tuple(rules) + never_agreeing(left, room, sent)


def first_self_pair(table):
    """The least room that hears itself and a sending with which it does so; None if there is none."""
    for room in range(len(table.sends)):
        pair = hearing_pair(table, room, room)
        if pair is not None:
            return (room, pair[0])
    return None


def never_agreeing(table, room, sent):
    """Rules without a story: the others always send what they send here, where the room hears itself."""
    received = [brought(table, put_in(sent, room, number))[room] for number in range(table.sends[room])]
    rules = [(sent[other],) * taken for other, taken in enumerate(table.takes)]
    # For each note the room sends something that does not bring it this note.
    rules[room] = tuple([first_unlike(received, note) for note in range(table.takes[room])])
    return tuple(rules)


def first_unlike(numbers, number):
    """The first index at which something else stands; there must be one."""
    at = 0
    while numbers[at] == number:
        at += 1
    return at


def is_two(table, thing):
    """Whether any value is a triple of rules and two stories of them, the lesser one first."""
    need_table(table)
    if not isinstance(thing, tuple) or len(thing) != 3:
        return False
    rules, one, other = thing
    if not are_rules_of(table, rules) or not is_pair(table, (one, other)):
        return False
    return replies(rules, brought(table, one)) == one and replies(rules, brought(table, other)) == other


def is_none(table, thing):
    """Whether any value is rules without a story."""
    need_table(table)
    return are_rules_of(table, thing) and all_stories(table, thing) == []
