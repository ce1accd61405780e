"""Which of two fine tables it is, by the stories of rules alone."""

from onestory.fine import need_fine, need_two_fine
from onestory.shapes import rows
from onestory.stories import all_stories, are_rules_of
from onestory.tables import brought, need_sending


def checking_rules(table, sending):
    """Rules of which the sending is the story only in tables that bring the same there."""
    need_fine(table)
    need_sending(table, sending)
    return checking_at(table, sending)


def checking_at(table, sent):
    received = brought(table, sent)
    return tuple([checking_rule(table, room, received[room], number) for room, number in enumerate(sent)])


def checking_rule(table, room, note, number):
    """The rule by which the room sends the number for this note, and for no other one if it can send another number."""
    other = 1 if number == 0 and table.sends[room] > 1 else 0
    return tuple([number if at == note else other for at in range(table.takes[room])])


def is_checking(table, sending, thing):
    """Whether any value is rules that check the sending."""
    need_fine(table)
    need_sending(table, sending)
    if not are_rules_of(table, thing):
        return False
    received = brought(table, sending)
    return all([(number == sending[room]) == (note == received[room])
                for room, rule in enumerate(thing) if table.sends[room] > 1 for note, number in enumerate(rule)])


def first_unlike(one, other):
    """The first sending at which a room that can send several numbers receives otherwise; None if there is none."""
    speakers = [room for room, sent in enumerate(one.sends) if sent > 1]
    for sent, here, there in zip(rows(one.sends), one.notes, other.notes):
        if [1 for room in speakers if here[room] != there[room]]:
            return sent
    return None


def telling_rules(one, other):
    """Rules for which the two tables have unlike stories; None if there are none."""
    need_two_fine(one, other)
    sent = first_unlike(one, other)
    return None if sent is None else checking_at(one, sent)


def is_telling(one, other, thing):
    """Whether any value is rules for which the two tables have unlike stories."""
    need_two_fine(one, other)
    return are_rules_of(one, thing) and all_stories(one, thing) != all_stories(other, thing)


def same_stories(one, other):
    """Whether the two tables have the same story for all rules."""
    need_two_fine(one, other)
    return first_unlike(one, other) is None
