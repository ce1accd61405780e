"""Rules of rooms, and the sendings that agree with themselves by them."""

from onestory.errors import BadRules
from onestory.shapes import is_row, multiplied, powered, rows
from onestory.tables import brought, need_room, need_sending, need_table


def is_rule_of(table, room, thing):
    """Whether any value is a rule of the room; table and room are not checked."""
    return is_row(thing, (table.sends[room],) * table.takes[room])


def are_rules_of(table, thing):
    """Whether any value is rules of the table, which is not checked."""
    if not isinstance(thing, tuple) or len(thing) != len(table.sends):
        return False
    return all([is_rule_of(table, room, rule) for room, rule in enumerate(thing)])


def need_rules(table, rules):
    if not are_rules_of(table, rules):
        raise BadRules("no rules of the table")


def replies(rules, received):
    """What the rooms send by their rules for what they receive."""
    return tuple([rule[note] for rule, note in zip(rules, received)])


def all_stories(table, rules):
    """The ascending list of all stories; table and rules are not checked."""
    return [sent for sent, received in zip(rows(table.sends), table.notes) if replies(rules, received) == sent]


def is_rule(table, room, thing):
    """Whether any value is a rule of the room."""
    need_table(table)
    need_room(table, room)
    return is_rule_of(table, room, thing)


def are_rules(table, thing):
    """Whether any value is rules of the table."""
    need_table(table)
    return are_rules_of(table, thing)


def answer(table, rules, sending):
    """The sending that the rules make of the delivery of this sending."""
    need_table(table)
    need_rules(table, rules)
    need_sending(table, sending)
    return replies(rules, brought(table, sending))


def stories(table, rules):
    """The ascending list of all sendings that are their own answers."""
    need_table(table)
    need_rules(table, rules)
    return all_stories(table, rules)


def is_story(table, rules, thing):
    """Whether any value is a story of the rules."""
    need_table(table)
    need_rules(table, rules)
    return is_row(thing, table.sends) and replies(rules, brought(table, thing)) == thing


def all_rules(table):
    """How many rules the table has."""
    need_table(table)
    return multiplied([powered(sent, taken) for sent, taken in zip(table.sends, table.takes)])


def rules_for(table, sending):
    """How many rules have the sending as a story."""
    need_table(table)
    need_sending(table, sending)
    # What a room sends is laid down for the one note that it receives there, and free for all others.
    return multiplied([powered(sent, taken - 1) for sent, taken in zip(table.sends, table.takes)])
