"""The plain night: what the books of a bank have to be if nothing falls."""

from oncebooked.basics import is_row
from oncebooked.entries import Batch, batches_of, branch_of, is_entry_for
from oncebooked.errors import BadBatch, BadNight, BadRow, BadTexts, NoBranch

BOOKED = "booked"
BOUNCED = "bounced"
MOST_BOOKINGS = 2500


class Books:
    """What a branch has booked so far, and how its accounts stand behind that."""

    def __init__(self, bank, name):
        own = [row for row in bank.accounts if branch_of(row[0]) == name]
        self.bookings = []
        self.standing = {account: balance for account, balance, _ in own}
        self._limits = {account: limit for account, _, limit in own}

    def book(self, entry):
        """Books the entry, or lets it bounce."""
        payer, _, amount = entry
        bounces = self.standing[payer] - amount < -self._limits[payer]
        self.enter((BOUNCED if bounces else BOOKED,) + entry)

    def enter(self, booking):
        """Takes the booking by its word, whatever the limits are."""
        word, payer, payee, amount = booking
        self.bookings.append(booking)
        if word == BOOKED:
            self.standing[payer] -= amount
            if payee in self.standing:
                self.standing[payee] += amount


def check_branch(bank, name):
    """Raises NoBranch unless name is that of a branch of the bank."""
    if batches_of(bank, name) is None:
        raise NoBranch(name)


def batch_at(bank, name, number, text):
    """The Batch of this text; None unless it is the one with this number of the branch."""
    try:
        batch = Batch(bank, text)
    except BadBatch:
        return None
    return batch if batch.branch == name and batch.number == number else None


def entries_in(bank, name, texts):
    """The list of the entries of these texts of the branch, in their sequence; raises BadTexts."""
    if not isinstance(texts, tuple) or len(texts) > batches_of(bank, name):
        raise BadTexts(None)
    entries = []
    for at, text in enumerate(texts):
        batch = batch_at(bank, name, at + 1, text)
        if batch is None:
            raise BadTexts(at)
        entries.extend(batch.entries)
    return entries


def night_entries(bank, night):
    """The list of what entries_in tells for each branch, in their order; raises BadNight."""
    if not is_row(night, len(bank.branches)):
        raise BadNight(None)
    found = []
    for (name, many), texts in zip(bank.branches, night):
        if not is_row(texts, many):
            raise BadNight(len(found))
        try:
            found.append(entries_in(bank, name, texts))
        except BadTexts:
            raise BadNight(len(found)) from None
    return found


def is_booking(bank, name, value):
    """Whether value is a booking of an entry that this branch has to book."""
    return is_row(value, 4) and value[0] in (BOOKED, BOUNCED) and is_entry_for(bank, name, value[1:])


def check_row(bank, name, row):
    """Raises BadRow unless row is a tuple of bookings of the branch."""
    if not isinstance(row, tuple) or len(row) > MOST_BOOKINGS:
        raise BadRow(row)
    if not all([is_booking(bank, name, booking) for booking in row]):
        raise BadRow(row)


def row_of(bank, name, entries):
    """The tuple of the bookings of all these entries, each one behind those ahead of it."""
    books = Books(bank, name)
    for entry in entries:
        books.book(entry)
    return tuple(books.bookings)


def letters_of(bookings, other):
    """The tuple of the letters to this branch that come of these bookings of another one."""
    # Names have no dots: so whatever begins like this is an account of that very branch.
    begin = other + "."
    told = [row for row in bookings if row[0] == BOOKED and row[2].startswith(begin)]
    return tuple([(at + 1, row[2], row[3]) for at, row in enumerate(told)])


def plain_row(bank, name, texts):
    """The tuple of the bookings of all entries of these batches."""
    check_branch(bank, name)
    return row_of(bank, name, entries_in(bank, name, texts))


def letters_in(bank, name, row, other):
    """The tuple of the letters to this other branch that come of these bookings."""
    check_branch(bank, name)
    check_row(bank, name, row)
    if other == name:
        raise NoBranch(other)
    check_branch(bank, other)
    return letters_of(row, other)


def balances_behind(bank, name, row):
    """The tuple of (account, balance) for all accounts of this branch behind these bookings."""
    check_branch(bank, name)
    check_row(bank, name, row)
    books = Books(bank, name)
    for booking in row:
        books.enter(booking)
    return tuple(books.standing.items())


def plain_night(bank, night):
    """The tuple of the plain rows of all branches, in their order."""
    found = night_entries(bank, night)
    return tuple([row_of(bank, name, entries) for (name, _), entries in zip(bank.branches, found)])


def plain_balances(bank, night):
    """The tuple of (account, balance) for all accounts of the bank at dawn."""
    standing = {account: balance for account, balance, _ in bank.accounts}
    for row in plain_night(bank, night):
        for word, payer, payee, amount in row:
            if word == BOOKED:
                standing[payer] -= amount
                standing[payee] += amount
    return tuple(standing.items())


def least_limits(bank, name, texts):
    """The tuple of (account, limit) for all payers in these batches: the least limits with which nothing bounces."""
    check_branch(bank, name)
    books = Books(bank, name)
    limits = {}
    for entry in entries_in(bank, name, texts):
        books.enter((BOOKED,) + entry)
        limits[entry[0]] = max(limits.get(entry[0], 0), -books.standing[entry[0]])
    return tuple([(account, limits[account]) for account in books.standing if account in limits])
