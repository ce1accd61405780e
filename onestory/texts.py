"""The text of a house, and the house of a text."""

from onestory.errors import BadHouse, BadText, StoryError
from onestory.fine import is_fine
from onestory.house import House
from onestory.shapes import are_sends, are_takes
from onestory.tables import Table, are_notes

FIGURES = "0123456789"
# No number in a text has more figures; longer words need not be looked at.
MOST_FIGURES = 2
TABLE_LINES = 3


def house_text(house):
    """The text of the house: its table to begin with, and its deeds."""
    if not isinstance(house, House):
        raise BadHouse("no House")
    table = house.begun
    lines = [words_text("sends", [str(size) for size in table.sends]),
             words_text("takes", [str(size) for size in table.takes]),
             words_text("notes", [row_text(received) for received in table.notes])]
    return "\n".join(lines + [deed_text(deed) for deed in house.log()])


def words_text(word, words):
    return " ".join([word] + words)


def row_text(row):
    return ",".join([str(number) for number in row])


def deed_text(deed):
    """The line of a deed."""
    word = deed[0]
    if word == "bind":
        return words_text(word, [f"{room}:{row_text(rule)}" for room, rule in deed[1].items()])
    if word == "loosen":
        return words_text(word, [str(room) for room in deed[1]])
    if word == "turn":
        return words_text(word, [str(deed[1]), row_text(deed[2])])
    return words_text(word, ["none"] if deed[1] is None else [row_text(sent) for sent in deed[1]])


def number_of(word):
    """The number for which the word is written, None if no text has it as a number."""
    if not 1 <= len(word) <= MOST_FIGURES or not all([sign in FIGURES for sign in word]):
        return None
    number = int(word)
    return number if str(number) == word else None


def numbers_of(words):
    return tuple([number_of(word) for word in words])


def row_of(word):
    """The numbers of a row; None stands among them for what is no number."""
    return numbers_of(word.split(","))


def read_house(text):
    """The House whose text it is, with nothing to be done again."""
    if not isinstance(text, str):
        raise BadText(None)
    lines = text.split("\n")
    house = House(table_in(lines))
    for at in range(TABLE_LINES, len(lines)):
        if not is_done(house, lines[at]):
            raise BadText(at + 1)
    return house


def words_behind(lines, number, word):
    """The words of the line with this number, which begins with the word, behind it."""
    words = lines[number - 1].split(" ") if number <= len(lines) else []
    if words[:1] != [word]:
        raise BadText(number)
    return words[1:]


def table_in(lines):
    """The fine Table that the first three lines tell."""
    sends = numbers_of(words_behind(lines, 1, "sends"))
    if not are_sends(sends):
        raise BadText(1)
    takes = numbers_of(words_behind(lines, 2, "takes"))
    if not are_takes(takes, len(sends)):
        raise BadText(2)
    notes = tuple([row_of(word) for word in words_behind(lines, 3, "notes")])
    if not are_notes(sends, takes, notes):
        raise BadText(3)
    table = Table(sends, takes, notes)
    if not is_fine(table):
        raise BadText(3)
    return table


def is_done(house, line):
    """Whether the line tells a deed that the house can do; then it is done."""
    words = line.split(" ")
    try:
        do_deed(house, words[0], words[1:])
    except StoryError:
        return False
    # Rooms in another order, or told twice, would be written otherwise.
    return deed_text(house.deeds[-1]) == line


def do_deed(house, word, words):
    """Does what the words tell; a StoryError if they tell nothing that can be done."""
    if word == "bind":
        house.bind(rules_in(words))
    elif word == "loosen":
        house.loosen(numbers_of(words))
    elif word == "turn" and len(words) == 2:
        house.turn(number_of(words[0]), row_of(words[1]))
    elif word == "guard":
        house.guard(None if words == ["none"] else tuple([row_of(row) for row in words]))
    else:
        raise StoryError("no deed")


def rules_in(words):
    """The dict from rooms to rules that the words tell; None stands for what is no number."""
    found = {}
    for word in words:
        room, _, rule = word.partition(":")
        found[number_of(room)] = row_of(rule)
    return found
