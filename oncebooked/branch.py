"""A branch that lies on a shelf and stands every cut.

A call that changes anything lays one file anew, and syncs. A lay is never torn: so a cut leaves this
file, and with it the branch, as it was ahead of the call, or as it is behind it, and nothing between.
"""

from oncebooked.basics import is_number, is_row
from oncebooked.entries import Bank, Batch, batches_of, MOST_AMOUNT
from oncebooked.errors import BadLetters, BadNumber, BadNumbers, Differs, Early, NoBranch, Stranger
from oncebooked.errors import TooEarly, Unlike
from oncebooked.plainly import Books, check_branch, letters_of

# The name of the branch, and then the lines of the text of its bank.
BRANCH_FILE = "branch"
# The lines of the texts of all batches that were taken, one behind the other.
TAKEN_FILE = "taken"
# One line with how many entries are posted: what came of them follows from the batches.
POSTED_FILE = "posted"
# A line for each other branch with the number of its last letter, and one for each account with what is to come.
HEARD_FILE = "heard"
# There as soon as credit was done.
CREDITED_FILE = "credited"

MOST_NUMBER = 10 ** 6
MOST_LETTERS = 2500


def new_branch(shelf, bank, name):
    """Lays the branch of this name on the shelf."""
    check_branch(bank, name)
    lines = (name,) + tuple(bank.text.split("\n"))
    have = shelf.read(BRANCH_FILE)
    if have is None:
        lay_for_sure(shelf, BRANCH_FILE, lines)
    elif have != lines:
        raise Unlike(None)


def lies_there(shelf):
    """Whether a branch lies on the shelf."""
    return shelf.read(BRANCH_FILE) is not None


def lay_for_sure(shelf, file, lines):
    """Gives the file these lines, such that no later cut takes them back."""
    shelf.lay(file, lines)
    shelf.sync()


def texts_in(lines):
    """The list of the texts of batches that stand in these lines one behind the other."""
    rows = []
    for line in lines:
        if line.startswith("batch "):
            rows.append([line])
        else:
            rows[-1].append(line)
    return ["\n".join(row) for row in rows]


def counts_with(words, lines):
    """A dict with the number of each word as the lines tell it, 0 for those of which they tell nothing."""
    counts = {word: 0 for word in words}
    for line in lines:
        word, figures = line.split(" ")
        if word in counts:
            counts[word] = int(figures)
    return counts


def is_letter(value, accounts):
    """Whether value is a letter to one of these accounts."""
    if not is_row(value, 3) or not is_number(value[0], 1, MOST_NUMBER):
        return False
    return isinstance(value[1], str) and value[1] in accounts and is_number(value[2], 1, MOST_AMOUNT)


def check_letters(letters, accounts):
    """Raises BadLetters unless letters is a tuple of letters to these accounts."""
    if not isinstance(letters, tuple) or len(letters) > MOST_LETTERS:
        raise BadLetters(None)
    for at, letter in enumerate(letters):
        if not is_letter(letter, accounts):
            raise BadLetters(at)


def letters_next(letters, last):
    """The list of those of the letters that are heard one behind the other, if the last one had this number."""
    found = []
    for letter in letters:
        if letter[0] == last + len(found) + 1:
            found.append(letter)
    return found


def are_numbers(value, others):
    """Whether value is a tuple of (other, number) for just these branches, in their order."""
    if not is_row(value, len(others)):
        return False
    for part, other in zip(value, others):
        if not is_row(part, 2) or part[0] != other or not is_number(part[1], 0, MOST_NUMBER):
            return False
    return True


class Branch:
    """A branch of a bank, looked up on the shelf where it lies."""

    def __init__(self, shelf):
        if not lies_there(shelf):
            raise NoBranch(None)
        first = shelf.read(BRANCH_FILE)
        self._shelf = shelf
        self.name = first[0]
        self.bank = Bank("\n".join(first[1:]))
        self.is_credited = False
        self._books = Books(self.bank, self.name)
        self._texts = []
        self._entries = []
        for text in texts_in(shelf.read(TAKEN_FILE) or ()):
            self._enter(Batch(self.bank, text))
        for line in shelf.read(POSTED_FILE) or ():
            self._book(int(line))
        heard = shelf.read(HEARD_FILE) or ()
        self._heard = counts_with([name for name, _ in self.bank.branches if name != self.name], heard)
        self._coming = counts_with(list(self._books.standing), heard)
        if shelf.read(CREDITED_FILE) is not None:
            self._bring()

    @property
    def taken(self):
        """How many batches were taken."""
        return len(self._texts)

    @property
    def row(self):
        """The tuple of the bookings so far."""
        return tuple(self._books.bookings)

    @property
    def posted(self):
        """How many entries are posted."""
        return len(self._books.bookings)

    @property
    def balances(self):
        """The tuple of (account, balance) for all accounts of the branch."""
        return tuple(self._books.standing.items())

    def take(self, text):
        """Takes the batch with this text; changes nothing if it was taken already."""
        batch = Batch(self.bank, text)
        if batch.branch != self.name:
            raise Stranger(batch.branch)
        if batch.number > self.taken + 1:
            raise Early(batch.number)
        if batch.number <= self.taken:
            if self._texts[batch.number - 1] != text:
                raise Differs(batch.number)
            return
        have = self._shelf.read(TAKEN_FILE) or ()
        lay_for_sure(self._shelf, TAKEN_FILE, have + tuple(text.split("\n")))
        self._enter(batch)

    def post(self, upto):
        """Books entries, or lets them bounce, until so many are posted, or all that are there; how many are now."""
        if not is_number(upto, 0, MOST_NUMBER):
            raise BadNumber(upto)
        many = min(upto, len(self._entries))
        if many > self.posted:
            lay_for_sure(self._shelf, POSTED_FILE, (str(many),))
            self._book(many)
        return self.posted

    def letters_to(self, other, after):
        """The tuple of all letters so far to the other branch with a number above this one."""
        self._check_other(other)
        if not is_number(after, 0, MOST_NUMBER):
            raise BadNumber(after)
        return letters_of(self._books.bookings, other)[after:]

    def hear(self, other, letters):
        """Hears those of the letters that come next; the number of the last one that was heard."""
        self._check_other(other)
        check_letters(letters, self._coming)
        news = letters_next(letters, self._heard[other])
        if news and not self.is_credited:
            for _, payee, amount in news:
                self._coming[payee] += amount
            self._heard[other] += len(news)
            counts = list(self._heard.items()) + list(self._coming.items())
            lay_for_sure(self._shelf, HEARD_FILE, tuple([f"{word} {count}" for word, count in counts]))
        return self._heard[other]

    def heard(self, other):
        """The number of the last letter that was heard from the other branch."""
        self._check_other(other)
        return self._heard[other]

    def credit(self, numbers):
        """Adds what was heard to the balances, once, and only if all is there that these numbers tell."""
        if not are_numbers(numbers, list(self._heard)):
            raise BadNumbers(numbers)
        if self.is_credited:
            return
        if self.taken < batches_of(self.bank, self.name) or self.posted < len(self._entries):
            raise TooEarly(self.name)
        for other, number in numbers:
            if number != self._heard[other]:
                raise TooEarly(other)
        lay_for_sure(self._shelf, CREDITED_FILE, ())
        self._bring()

    def _check_other(self, other):
        if other not in list(self._heard):
            raise NoBranch(other)

    def _enter(self, batch):
        self._texts.append(batch.text)
        self._entries.extend(batch.entries)

    def _book(self, upto):
        for entry in self._entries[self.posted:upto]:
            self._books.book(entry)

    def _bring(self):
        for account in self._coming:
            self._books.standing[account] += self._coming[account]
        self.is_credited = True
