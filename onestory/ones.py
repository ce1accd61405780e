"""One room at a time: the story of a fine table, and a course to it."""

from onestory.fine import need_fine
from onestory.shapes import is_below, put_in
from onestory.stories import all_stories, need_rules
from onestory.tables import brought, need_sending, need_table


def the_story(table, rules):
    """The story of the rules in a fine table."""
    need_table(table)
    need_rules(table, rules)
    need_fine(table)
    return all_stories(table, rules)[0]


def course(table, rules, sending):
    """Rooms that, one after another, lead a fine table from the sending to the story."""
    need_table(table)
    need_rules(table, rules)
    need_sending(table, sending)
    need_fine(table)
    story = all_stories(table, rules)[0]
    sent = sending
    rooms = []
    while sent != story:
        room = mending(table, story, sent)
        rooms.append(room)
        sent = put_in(sent, room, story[room])
    return rooms


def mending(table, story, sent):
    """The least room that sends otherwise than in the story and receives the same: its rule mends it."""
    # A fine table has one, since some room parts the sending from the story.
    told = brought(table, story)
    received = brought(table, sent)
    return [room for room, note in enumerate(received) if sent[room] != story[room] and note == told[room]][0]


def is_course(table, rules, sending, thing):
    """Whether any value is a list of different rooms that lead, one after another, from the sending to a story."""
    need_table(table)
    need_rules(table, rules)
    need_sending(table, sending)
    if not isinstance(thing, (list, tuple)):
        return False
    sent = sending
    used = []
    for room in thing:
        if not is_below(room, len(table.sends)) or room in used:
            return False
        number = rules[room][brought(table, sent)[room]]
        if number == sent[room]:
            return False
        used.append(room)
        sent = put_in(sent, room, number)
    return sent in all_stories(table, rules)
