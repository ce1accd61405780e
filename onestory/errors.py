"""All errors of the package, one class for each kind of failure."""


class StoryError(ValueError):
    """What all errors of the package are."""


class BadAim(StoryError):
    """What is asked is neither which table it is nor what the story is."""


class BadBinding(StoryError):
    """No dict, not empty, from rooms to rules of them."""


class BadBlend(StoryError):
    """No list of shares and tables that can be blended."""


class BadCell(StoryError):
    """No pair of a sending and a room."""


class BadCells(StoryError):
    """No ascending tuple of different cells."""


class BadChances(StoryError):
    """No Chances as asked for."""


class BadDelivery(StoryError):
    """No tuple with a note for each room that it can receive."""


class BadGuess(StoryError):
    """No ascending tuple of unknown cells with notes."""


class BadHeard(StoryError):
    """No tuple with a note for each room of the lot."""


class BadHeld(StoryError):
    """No dict from rooms to numbers that they can send."""


class BadHouse(StoryError):
    """No house as asked for."""


class BadIndex(StoryError):
    """No number of a table in the list."""


class BadInner(StoryError):
    """No Table for the rooms of the team."""


class BadKept(StoryError):
    """No number of cells that can be kept in mind."""


class BadKnown(StoryError):
    """No dict from the rooms in question to rules of them."""


class BadLayers(StoryError):
    """No tuple of Tables that can be layers."""


class BadLot(StoryError):
    """No ascending tuple of one or more rooms."""


class BadMany(StoryError):
    """No number from 0 to 99."""


class BadMix(StoryError):
    """No tuple with 0, 1 or 2 for each room."""


class BadMixed(StoryError):
    """No mixed rules of the table."""


class BadMost(StoryError):
    """No number that can be a limit here."""


class BadNote(StoryError):
    """No note that can stand here."""


class BadNotes(StoryError):
    """No notes as described."""


class BadNumber(StoryError):
    """No number in the range described."""


class BadOther(StoryError):
    """The other sending does not differ at each room of the lot."""


class BadPaper(StoryError):
    """No paper of the table."""


class BadPart(StoryError):
    """No part of the chances."""


class BadPlace(StoryError):
    """No place among the rooms."""


class BadPrices(StoryError):
    """No price list of the chances."""


class BadQuestion(StoryError):
    """No question for this aim."""


class BadQueue(StoryError):
    """No tuple of all rooms, each once."""


class BadRenaming(StoryError):
    """No renaming of these sends and takes."""


class BadRest(StoryError):
    """No tuple with a number to send for each of the other rooms."""


class BadRing(StoryError):
    """No lone ring of the table."""


class BadRoom(StoryError):
    """No room of the table, or none that is allowed here."""


class BadRooms(StoryError):
    """No rooms as described."""


class BadRule(StoryError):
    """No rule of the room."""


class BadRules(StoryError):
    """No rules of the table."""


class BadSafe(StoryError):
    """No ascending tuple of different sendings."""


class BadSending(StoryError):
    """No sending of the table."""


class BadSends(StoryError):
    """No tuple of what the rooms can send."""


class BadSent(StoryError):
    """Nothing that can be sent."""


class BadSizes(StoryError):
    """No sizes for a ring."""


class BadSketch(StoryError):
    """No Sketch."""


class BadSparks(StoryError):
    """No tuple of sparks."""


class BadSplit(StoryError):
    """No two factors of what the room sends."""


class BadTable(StoryError):
    """No Table."""


class BadTables(StoryError):
    """No list of fine Tables that are alike in size."""


class BadTake(StoryError):
    """No number of notes from 1 to 64."""


class BadTakes(StoryError):
    """No tuple of what the rooms can receive."""


class BadTalk(StoryError):
    """No talk of the speaker to the hearer."""


class BadTeam(StoryError):
    """No ascending tuple of some rooms, but not of all."""


class BadText(StoryError):
    """The text of no House, from this line on; None for what is no string."""

    def __init__(self, line):
        super().__init__(f"no text of a House at line {line}")
        self.line = line


class BadTold(StoryError):
    """No dict from rooms and notes to what is sent for them."""


class BadTurns(StoryError):
    """The item at this index is no turn; None for what is no list."""

    def __init__(self, at):
        super().__init__(f"no turn at {at}")
        self.at = at


class BadWeights(StoryError):
    """No weights for these sends and takes."""


class BadWheel(StoryError):
    """No wheel of the table."""


class BadWishes(StoryError):
    """No dict from sendings of the layers to notes."""


class HearsItself(StoryError):
    """This room hears itself, so it cannot be closed."""

    def __init__(self, room):
        super().__init__(f"hears itself: room {room}")
        self.room = room


class NoFit(StoryError):
    """The sketch has no fit."""


class NotAlike(StoryError):
    """The two rooms do not receive the same in all sendings."""


class NotBound(StoryError):
    """This room is free."""

    def __init__(self, room):
        super().__init__(f"not bound: room {room}")
        self.room = room


class NotFine(StoryError):
    """The table is not fine."""


class NotSafe(StoryError):
    """The story is not among the safe sendings."""


class NotTwoWay(StoryError):
    """Some delivery does not come at just one sending."""


class NothingDone(StoryError):
    """No deed stands that could be taken back."""


class NothingUndone(StoryError):
    """No deed was taken back that could be done again."""


class OneNote(StoryError):
    """The room can receive one note only."""


class OneRoom(StoryError):
    """The table has one room only."""


class OtherSizes(StoryError):
    """The tables have unlike sends or takes."""


class TooGreat(StoryError):
    """What would be made is greater than a Table can be."""


class TooMany(StoryError):
    """There are more than this."""

    def __init__(self, most):
        super().__init__(f"more than {most}")
        self.most = most


class Unsafe(StoryError):
    """This sending would be possible, and the guard does not have it."""

    def __init__(self, sending):
        super().__init__(f"not in the guard: {sending}")
        self.sending = sending
