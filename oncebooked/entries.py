"""Banks, their branches and accounts, and batches of entries."""

from oncebooked.basics import is_account, is_name, is_number, is_row, number_in
from oncebooked.errors import BadAccount, BadAccounts, BadBank, BadBatch, BadBranches, BadEntries
from oncebooked.errors import BadNumber, NoBranch

MOST_BRANCHES = 6
MOST_BATCHES = 50
MOST_ACCOUNTS = 60
MOST_ENTRIES = 50
MOST_BALANCE = 10 ** 15
MOST_AMOUNT = 10 ** 12


def can_be_branch(value, ahead):
    """Whether value is a pair (name, batches) that can stand behind those ahead."""
    if len(ahead) == MOST_BRANCHES or not is_row(value, 2):
        return False
    name, batches = value
    if not is_name(name) or not is_number(batches, 0, MOST_BATCHES):
        return False
    return name not in [row[0] for row in ahead]


def can_be_account(value, ahead, branches):
    """Whether value is (account, balance, limit) that can stand behind those ahead, in a bank with these branches."""
    if len(ahead) == MOST_ACCOUNTS or not is_row(value, 3):
        return False
    account, balance, limit = value
    if not is_account(account) or account in [row[0] for row in ahead]:
        return False
    if branch_of(account) not in [row[0] for row in branches]:
        return False
    return is_number(limit, 0, MOST_BALANCE) and is_number(balance, -limit, MOST_BALANCE)


def read_branch(line):
    """(name, batches) as the line of a branch tells it, the number None if it is not as told; None for another line."""
    words = line.split(" ")
    if len(words) != 3 or words[0] != "branch":
        return None
    return (words[1], number_in(words[2], 0, MOST_BATCHES))


def read_account(line):
    """(account, balance, limit) as the line of an account tells it, in the same way as read_branch."""
    words = line.split(" ")
    if len(words) != 4 or words[0] != "account":
        return None
    return (words[1], number_in(words[2], -MOST_BALANCE, MOST_BALANCE), number_in(words[3], 0, MOST_BALANCE))


def read_bank(text):
    """The tuples of branches and of accounts that the text of a bank tells; raises BadBank."""
    if not isinstance(text, str):
        raise BadBank(0)
    branches = []
    accounts = []
    for at, line in enumerate(text.split("\n")):
        branch = read_branch(line)
        account = read_account(line)
        if not accounts and can_be_branch(branch, branches):
            branches.append(branch)
        elif can_be_account(account, accounts, branches):
            accounts.append(account)
        else:
            raise BadBank(at + 1)
    return tuple(branches), tuple(accounts)


class Bank:
    """A bank: its branches with how many batches each gets, its accounts with balances and limits."""

    def __init__(self, text):
        branches, accounts = read_bank(text)
        self.text = text
        self.branches = branches
        self.accounts = accounts
        self._places = {row[0]: at for at, row in enumerate(accounts)}

    def __eq__(self, other):
        return isinstance(other, Bank) and self.text == other.text

    def place_of(self, account):
        """The place of the account among those of the bank; None for what is none of them."""
        if not isinstance(account, str):
            return None
        return self._places.get(account)


def are_branches(value):
    """Whether value is what the branches of a bank can be."""
    if not isinstance(value, tuple) or value == ():
        return False
    ahead = []
    for row in value:
        if not can_be_branch(row, ahead):
            return False
        ahead.append(row)
    return True


def are_accounts(value, branches):
    """Whether value is what the accounts of a bank with these branches can be."""
    if not isinstance(value, tuple):
        return False
    ahead = []
    for row in value:
        if not can_be_account(row, ahead, branches):
            return False
        ahead.append(row)
    return True


def bank_text(branches, accounts):
    """The text of the bank with these branches and accounts."""
    if not are_branches(branches):
        raise BadBranches(branches)
    if not are_accounts(accounts, branches):
        raise BadAccounts(accounts)
    first = [f"branch {name} {batches}" for name, batches in branches]
    return "\n".join(first + [f"account {account} {balance} {limit}" for account, balance, limit in accounts])


def branch_of(account):
    """The name of the branch of an account."""
    if not is_account(account):
        raise BadAccount(account)
    return account.split(".")[0]


def batches_of(bank, name):
    """How many batches the branch gets; None if the bank has no branch of this name."""
    for branch, batches in bank.branches:
        if branch == name:
            return batches
    return None


def accounts_of(bank, name):
    """The tuple of the names of the accounts of a branch, in their order in the bank."""
    if batches_of(bank, name) is None:
        raise NoBranch(name)
    return tuple([row[0] for row in bank.accounts if branch_of(row[0]) == name])


def is_entry(bank, value):
    """Whether any value is an entry (payer, payee, amount) of the bank."""
    if not is_row(value, 3):
        return False
    payer, payee, amount = value
    if bank.place_of(payer) is None or bank.place_of(payee) is None:
        return False
    return payer != payee and is_number(amount, 1, MOST_AMOUNT)


def is_entry_for(bank, name, value):
    """Whether value is an entry that the branch of this name has to book."""
    return is_entry(bank, value) and branch_of(value[0]) == name


def read_head(bank, line):
    """(number, name, count, total) as the first line of a batch tells it; None if it cannot stand there."""
    words = line.split(" ")
    if len(words) != 5 or words[0] != "batch":
        return None
    batches = batches_of(bank, words[2])
    if batches is None:
        return None
    number = number_in(words[1], 1, batches)
    count = number_in(words[3], 0, MOST_ENTRIES)
    total = number_in(words[4], 0, MOST_BALANCE)
    if number is None or count is None or total is None:
        return None
    return number, words[2], count, total


def read_entry(line):
    """(payer, payee, amount) as the line of an entry tells it, in the same way as read_branch."""
    words = line.split(" ")
    if len(words) != 4 or words[0] != "entry":
        return None
    return (words[1], words[2], number_in(words[3], 1, MOST_AMOUNT))


def read_batch(bank, text):
    """(number, name, entries) as the text of a batch tells them; raises BadBatch."""
    if not isinstance(text, str):
        raise BadBatch(0)
    lines = text.split("\n")
    head = read_head(bank, lines[0])
    if head is None:
        raise BadBatch(1)
    number, name, count, total = head
    entries = []
    for line in lines[1:]:
        entry = read_entry(line)
        if len(entries) == count or not is_entry_for(bank, name, entry):
            raise BadBatch(len(entries) + 2)
        entries.append(entry)
    if len(entries) < count:
        raise BadBatch(len(lines) + 1)
    if sum([entry[2] for entry in entries]) != total:
        raise BadBatch(1)
    return number, name, tuple(entries)


class Batch:
    """A batch of entries that one branch of a bank has to book."""

    def __init__(self, bank, text):
        number, name, entries = read_batch(bank, text)
        self.bank = bank
        self.text = text
        self.number = number
        self.branch = name
        self.entries = entries

    def __eq__(self, other):
        return isinstance(other, Batch) and self.bank == other.bank and self.text == other.text


def are_entries_for(bank, name, value):
    """Whether value can be the entries of a batch of the branch of this name."""
    if not isinstance(value, tuple) or len(value) > MOST_ENTRIES:
        return False
    return all([is_entry_for(bank, name, entry) for entry in value])


def batch_text(bank, number, name, entries):
    """The text of this batch."""
    batches = batches_of(bank, name)
    if batches is None:
        raise NoBranch(name)
    if not is_number(number, 1, batches):
        raise BadNumber(number)
    if not are_entries_for(bank, name, entries):
        raise BadEntries(entries)
    total = sum([entry[2] for entry in entries])
    first = [f"batch {number} {name} {len(entries)} {total}"]
    return "\n".join(first + [f"entry {payer} {payee} {amount}" for payer, payee, amount in entries])
