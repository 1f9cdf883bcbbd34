"""Points 5 and 6 once more, in the most plodding way, and banks, nights and calls that are drawn.

Nothing here uses the package but for its errors: the tests compare it with what stands here.
"""

import random

from oncebooked.errors import Differs, Early, TooEarly

NAMES = ('east', 'west', 'north', 'south', 'up', 'down')


def words_in(text, first):
    """The words of all lines that begin with this one."""
    rows = [line.split(' ') for line in text.split('\n')]
    return [row[1:] for row in rows if row[0] == first]


def branches_in(text):
    return [(name, int(many)) for name, many in words_in(text, 'branch')]


def names_in(text):
    return [name for name, _ in branches_in(text)]


def accounts_in(text):
    """A dict from accounts to (balance, limit), in the order of the bank."""
    return {account: (int(balance), int(limit)) for account, balance, limit in words_in(text, 'account')}


def entries_in(texts):
    return [(payer, payee, int(amount)) for text in texts for payer, payee, amount in words_in(text, 'entry')]


def lies_at(account, name):
    return account.split('.')[0] == name


def standing_behind(text, name, row):
    """A dict from the accounts of a branch to their balances behind these bookings."""
    standing = {account: balance for account, (balance, _) in accounts_in(text).items() if lies_at(account, name)}
    for word, payer, payee, amount in row:
        if word == 'booked':
            standing[payer] -= amount
            if lies_at(payee, name):
                standing[payee] += amount
    return standing


def plain_row(text, name, texts):
    row = ()
    for payer, payee, amount in entries_in(texts):
        left = standing_behind(text, name, row)[payer] - amount
        word = 'booked' if left >= -accounts_in(text)[payer][1] else 'bounced'
        row += ((word, payer, payee, amount),)
    return row


def letters_in(row, other):
    letters = ()
    for word, _, payee, amount in row:
        if word == 'booked' and lies_at(payee, other):
            letters += ((len(letters) + 1, payee, amount),)
    return letters


def plain_rows(text, night):
    return {name: plain_row(text, name, texts) for name, texts in zip(names_in(text), night)}


def plain_balances(text, night):
    rows = plain_rows(text, night)
    found = ()
    for account in accounts_in(text):
        own = account.split('.')[0]
        come = sum(amount for one in rows if one != own for _, payee, amount in letters_in(rows[one], own)
                   if payee == account)
        found += ((account, standing_behind(text, own, rows[own])[account] + come),)
    return found


class Model:
    """What point 6 tells of a branch, kept in memory and worked out anew whenever it is asked for."""

    def __init__(self, text, name, texts=(), posted=0, letters=(), is_credited=False):
        self.text = text
        self.name = name
        self.texts = texts
        self.posted = posted
        self.letters = letters
        self.is_credited = is_credited

    def but(self, **more):
        told = {'texts': self.texts, 'posted': self.posted, 'letters': self.letters, 'is_credited': self.is_credited}
        return Model(self.text, self.name, **{**told, **more})

    @property
    def others(self):
        return [other for other in names_in(self.text) if other != self.name]

    @property
    def batches(self):
        return dict(branches_in(self.text))[self.name]

    @property
    def taken(self):
        return len(self.texts)

    @property
    def row(self):
        return plain_row(self.text, self.name, self.texts)[:self.posted]

    @property
    def balances(self):
        standing = standing_behind(self.text, self.name, self.row)
        if self.is_credited:
            for _, _, payee, amount in self.letters:
                standing[payee] += amount
        return tuple(standing.items())

    def letters_to(self, other, after):
        return tuple(letter for letter in letters_in(self.row, other) if letter[0] > after)

    def heard(self, other):
        return sum(one == other for one, _, _, _ in self.letters)

    def hearing(self, other, letters):
        heard = self.letters
        for number, payee, amount in letters:
            if not self.is_credited and number == sum(one == other for one, _, _, _ in heard) + 1:
                heard += ((other, number, payee, amount),)
        return self.but(letters=heard)

    def behind(self, call):
        """(steps, told): how it stands ahead, amid and behind the call, and what the call returns; raises as it does."""
        word, parts = call[0], call[1:]
        if word == 'take':
            return self._taking(*parts), None
        if word == 'post':
            return self._posting(*parts)
        if word == 'hear':
            steps = [self.hearing(parts[0], parts[1][:many]) for many in range(len(parts[1]) + 1)]
            return steps, steps[-1].heard(parts[0])
        return self._crediting(*parts), None

    def _taking(self, text):
        number = int(text.split(' ')[1])
        if number > self.taken + 1:
            raise Early(number)
        if number == self.taken + 1:
            return [self, self.but(texts=self.texts + (text,))]
        if self.texts[number - 1] != text:
            raise Differs(number)
        return [self]

    def _posting(self, upto):
        many = max(self.posted, min(upto, len(entries_in(self.texts))))
        return [self.but(posted=posted) for posted in range(self.posted, many + 1)], many

    def _crediting(self, numbers):
        if self.is_credited:
            return [self]
        if self.taken < self.batches or self.posted < len(entries_in(self.texts)):
            raise TooEarly(self.name)
        for other, number in numbers:
            if self.heard(other) != number:
                raise TooEarly(other)
        return [self, self.but(is_credited=True)]


def stand(branch, others):
    """All that a branch, or a model of one, tells."""
    return (branch.name, branch.taken, branch.row, branch.posted, branch.balances, branch.is_credited,
            [branch.heard(other) for other in others], [branch.letters_to(other, 0) for other in others])


def drawn_bank(draw, most=4):
    """The text of a bank whose entries often bounce."""
    names = draw.sample(NAMES, draw.randint(1, most))
    accounts = [(name + '.' + word, draw.randint(0, 20)) for name in names
                for word in draw.sample(('ann', 'bob', 'cid', 'dan'), draw.randint(0, 3))]
    draw.shuffle(accounts)
    return '\n'.join([f'branch {name} {draw.randint(0, 3)}' for name in names]
                     + [f'account {account} {draw.randint(-limit, 40)} {limit}' for account, limit in accounts])


def batch_of(number, name, entries):
    first = f'batch {number} {name} {len(entries)} {sum(amount for _, _, amount in entries)}'
    return '\n'.join([first] + [f'entry {payer} {payee} {amount}' for payer, payee, amount in entries])


def drawn_entries(draw, text, name, most=4):
    accounts = list(accounts_in(text))
    own = [account for account in accounts if lies_at(account, name)]
    if not own or len(accounts) < 2:
        return []
    pairs = [(draw.choice(own), draw.choice(accounts), draw.randint(1, 25)) for _ in range(draw.randint(0, most))]
    return [entry for entry in pairs if entry[0] != entry[1]]


def drawn_night(draw, text):
    return tuple(tuple(batch_of(number + 1, name, drawn_entries(draw, text, name)) for number in range(many))
                 for name, many in branches_in(text))


def drawn_row(draw, things):
    """Some of these things, some of them twice, mostly in their sequence."""
    row = [thing for thing in things for _ in range(draw.choice((0, 1, 1, 1, 2)))]
    if draw.random() < 0.4:
        draw.shuffle(row)
    return tuple(row)


def drawn(seed, most=4):
    """(draw, text of a bank, night) for a number."""
    draw = random.Random(seed)
    text = drawn_bank(draw, most)
    return draw, text, drawn_night(draw, text)
