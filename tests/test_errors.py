import unittest

from onestory import errors

PLAIN = """
BadAim BadBinding BadBlend BadCell BadCells BadChances BadDelivery BadGuess BadHeard BadHeld BadHouse BadIndex
BadInner BadKept BadKnown BadLayers BadLot BadMany BadMix BadMixed BadMost BadNote BadNotes BadNumber BadOther BadPaper
BadPart BadPlace BadPrices BadQuestion BadQueue BadRenaming BadRest BadRing BadRoom BadRooms BadRule BadRules BadSafe
BadSending BadSends BadSent BadSizes BadSketch BadSparks BadSplit BadTable BadTables BadTake BadTakes BadTalk BadTeam
BadTold BadWeights BadWheel BadWishes NoFit NotAlike NotFine NotSafe NotTwoWay NothingDone NothingUndone OneNote OneRoom
OtherSizes TooGreat""".split()
WITH_ATTRIBUTE = {"BadText": "line", "BadTurns": "at", "HearsItself": "room", "NotBound": "room", "TooMany": "most",
                  "Unsafe": "sending"}


class Errors(unittest.TestCase):
    def test_the_first_one_is_a_value_error(self):
        self.assertEqual(errors.StoryError.__bases__, (ValueError,))
        self.assertEqual(str(errors.StoryError("why")), "why")

    def test_all_others_are_directly_below_it(self):
        for name in PLAIN + list(WITH_ATTRIBUTE):
            self.assertEqual(getattr(errors, name).__bases__, (errors.StoryError,), name)
            self.assertEqual(getattr(errors, name).__module__, "onestory.errors")

    def test_there_are_no_further_ones(self):
        found = [name for name, value in vars(errors).items() if isinstance(value, type)]
        self.assertEqual(sorted(found), sorted(PLAIN + list(WITH_ATTRIBUTE) + ["StoryError"]))

    def test_plain_ones_are_made_of_any_text(self):
        for name in PLAIN:
            for text in ("", "a word", "braces {0} and {"):
                self.assertEqual(str(getattr(errors, name)(text)), text)

    def test_attributes_by_position_and_by_name(self):
        for name, attribute in WITH_ATTRIBUTE.items():
            for value in (0, 20000, None, (0, 1), "word"):
                self.assertEqual(getattr(getattr(errors, name)(value), attribute), value)
                self.assertEqual(getattr(getattr(errors, name)(**{attribute: value}), attribute), value)

    def test_they_are_raised_and_caught_by_name(self):
        for name in WITH_ATTRIBUTE:
            with self.assertRaises(getattr(errors, name)):
                raise getattr(errors, name)(3)
