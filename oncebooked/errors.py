"""All errors of the package. Each keeps its only argument as value."""


class BookError(ValueError):
    """The error from which all others derive."""

    def __init__(self, value):
        self.value = value


class BadFiles(BookError):
    """What are no files of a shelf."""


class BadDeeds(BookError):
    """The number of the first part that is no deed or has no room; None for no such tuple."""


class BadName(BookError):
    """What is no name."""


class BadLine(BookError):
    """What is no line."""


class BadLines(BookError):
    """What is no tuple of lines."""


class Full(BookError):
    """The name of a file for which a shelf has no room."""


class BadChoices(BookError):
    """What are no choices of a cut."""


class TooMany(BookError):
    """The number that there is too much of, as the function tells it."""


class BadNumber(BookError):
    """What is no integer as it is asked for."""


class NotLeft(BookError):
    """What no cut leaves."""


class BadBank(BookError):
    """The number of the line that cannot stand in the text of a bank; 0 for no text."""


class BadBranches(BookError):
    """What are no branches of a bank."""


class BadAccounts(BookError):
    """What are no accounts of a bank."""


class BadAccount(BookError):
    """What is no account BRANCH.NAME."""


class NoBranch(BookError):
    """What is not the name of a branch."""


class BadBatch(BookError):
    """The number of the line that cannot stand in the text of a batch; 0 for no text."""


class BadEntries(BookError):
    """What are no entries."""


class BadTexts(BookError):
    """The number of the part that is no text of a branch; None for no such tuple."""


class BadNight(BookError):
    """The number of the part that is wrong in a night; None for no such tuple."""


class BadRow(BookError):
    """What is no row of bookings."""


class Unlike(BookError):
    """Another branch lies on the shelf."""


class Stranger(BookError):
    """The branch of a batch that is not this branch's."""


class Early(BookError):
    """The number of a batch that comes too early."""


class Differs(BookError):
    """The number of a batch that was taken with another text."""


class BadLetters(BookError):
    """The number of the part that is no letter; None for no such tuple."""


class BadNumbers(BookError):
    """What are no numbers of letters."""


class TooEarly(BookError):
    """The branch for which it is too early to credit."""


class BadCall(BookError):
    """What is no call of this night."""


class BadCalls(BookError):
    """The number of the part that is no call; None for no such tuple."""


class BadStretches(BookError):
    """The number of the part that is no stretch; None for no such tuple."""


class BadStretch(BookError):
    """What is no stretch."""


class BadRest(BookError):
    """What is no rest."""


class BadWeights(BookError):
    """What are no weights."""


class BadTable(BookError):
    """What is no table."""


class BadEnds(BookError):
    """What are no ends."""


class BadPostings(BookError):
    """What are no postings."""


class BadDraft(BookError):
    """The number of the line that cannot stand in a draft; 0 for no text."""


class BadPages(BookError):
    """The number of the part that is no page here; None for no such tuple."""


class BadFirsts(BookError):
    """What are no firsts."""


class NoAccount(BookError):
    """An account that stands not in the firsts."""


class BadNets(BookError):
    """What are no nets."""


class BadWork(BookError):
    """What is no work."""


class BadMarks(BookError):
    """What are no marks."""


class BadMoments(BookError):
    """What are no moments."""


class BadWay(BookError):
    """What is no way."""


class BadStanding(BookError):
    """What is no standing."""


class NotOnce(BookError):
    """What is told of a way that is wrong."""


class BadNotes(BookError):
    """What is no book of notes."""


class BadChanges(BookError):
    """What are no changes for a book."""


class BadAmount(BookError):
    """What is no amount as it is asked for."""


class TooLong(BookError):
    """How many notes a book has that has too many."""


class BadSteps(BookError):
    """The number of the line that cannot stand in a web of steps; 0 for no text."""


class BadDone(BookError):
    """What cannot be done of a web of steps."""


class BadWords(BookError):
    """What are no words of a rule."""


class BadRule(BookError):
    """What is no rule."""


class BadWeaving(BookError):
    """The number of the event that is none or cannot be; None for no such tuple."""


class BadDay(BookError):
    """The number of the line that cannot stand in a script; 0 for no text."""


class DayOver(BookError):
    """How many lines there are behind night, all of which are done."""


class BadDeed(BookError):
    """What is no deed of a desk."""


class NoName(BookError):
    """What is not the name of a thing of the desk."""


class NotThat(BookError):
    """The name of a thing that is of another kind than asked for."""


class Held(BookError):
    """A name that a thing of the desk has already."""


class NothingToUndo(BookError):
    """No deed stands: 0."""


class NothingToRedo(BookError):
    """How many deeds stand, where none is undone."""


class NoNote(BookError):
    """What is no note of the desk."""


class BadDesk(BookError):
    """The number of the line that cannot stand in the text of a desk; 0 for no text."""
