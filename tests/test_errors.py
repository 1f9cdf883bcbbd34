import unittest

from oncebooked import errors
from tests.values import odd_values

NAMES = '''BookError, BadFiles, BadDeeds, BadName, BadLine, BadLines, Full, BadChoices, TooMany, BadNumber,
NotLeft, BadBank, BadBranches, BadAccounts, BadAccount, NoBranch, BadBatch, BadEntries, BadTexts, BadNight, BadRow,
Unlike, Stranger, Early, Differs, BadLetters, BadNumbers, TooEarly, BadCall, BadCalls, BadStretches, BadStretch,
BadRest, BadWeights, BadTable, BadEnds, BadPostings, BadDraft, BadPages, BadFirsts, NoAccount, BadNets, BadWork,
BadMarks, BadMoments, BadWay, BadStanding, NotOnce, BadNotes, BadChanges, BadAmount, TooLong, BadSteps, BadDone,
BadWords, BadRule, BadWeaving, BadDay, DayOver, BadDeed, NoName, NotThat, Held, NothingToUndo, NothingToRedo, NoNote,
BadDesk'''.replace('\n', ' ').split(', ')


class Errors(unittest.TestCase):

    def test_each_is_there_and_defined_in_errors(self):
        self.assertEqual(len(NAMES), 67)
        for name in NAMES:
            error = getattr(errors, name)
            self.assertIsInstance(error, type)
            self.assertEqual((error.__name__, error.__module__), (name, 'oncebooked.errors'))

    def test_each_derives_directly_from_book_error(self):
        self.assertEqual(errors.BookError.__bases__, (ValueError,))
        for name in NAMES[1:]:
            self.assertEqual(getattr(errors, name).__bases__, (errors.BookError,), name)

    def test_each_keeps_any_value(self):
        for name in NAMES:
            for value in odd_values():
                self.assertIs(getattr(errors, name)(value).value, value)

    def test_each_can_be_raised_and_caught_as_value_error(self):
        for name in NAMES:
            with self.assertRaises(ValueError) as caught:
                raise getattr(errors, name)([name])
            self.assertEqual(caught.exception.value, [name])
