"""Accounts side by side: their statements, and the fewest transfers that settle what is owed."""

from oncebooked.basics import ascends, is_account, is_integer, is_number, is_row
from oncebooked.errors import BadEntries, BadFirsts, BadNets, NoAccount
from oncebooked.statements import statement_text

MOST_ENTRIES = 500
MOST_FIRSTS = 100
MOST_NETS = 12
MOST_AMOUNT = 10 ** 12
MOST_BALANCE = 10 ** 15


def is_entry_between(value):
    """Whether value is (payer, payee, amount) between two unlike accounts, whatever they are."""
    if not is_row(value, 3) or not is_account(value[0]) or not is_account(value[1]):
        return False
    return value[0] != value[1] and is_number(value[2], 1, MOST_AMOUNT)


def check_entries(entries):
    """Raises BadEntries unless entries is a tuple of entries."""
    if not isinstance(entries, tuple) or len(entries) > MOST_ENTRIES:
        raise BadEntries(entries)
    if not all([is_entry_between(entry) for entry in entries]):
        raise BadEntries(entries)


def are_sums(value, most):
    """Whether value is a tuple of at most so many (account, sum), ascending, each account once."""
    if not isinstance(value, tuple) or len(value) > most:
        return False
    for part in value:
        if not is_row(part, 2) or not is_account(part[0]) or not is_number(part[1], -MOST_BALANCE, MOST_BALANCE):
            return False
    return ascends([part[0] for part in value])


def check_books(firsts, entries):
    """Raises BadFirsts, BadEntries, or NoAccount for the first account that has no first balance."""
    if not are_sums(firsts, MOST_FIRSTS):
        raise BadFirsts(firsts)
    check_entries(entries)
    known = {account: True for account, _ in firsts}
    for payer, payee, _ in entries:
        if payer not in known:
            raise NoAccount(payer)
        if payee not in known:
            raise NoAccount(payee)


def check_nets(nets):
    """Raises BadNets unless nets are nets."""
    if not are_sums(nets, MOST_NETS):
        raise BadNets(nets)
    amounts = [amount for _, amount in nets]
    if 0 in amounts or sum(amounts) != 0:
        raise BadNets(nets)


def statements_of(firsts, entries):
    """The tuple of the statements of all accounts of the firsts."""
    check_books(firsts, entries)
    postings = {account: [] for account, _ in firsts}
    for at, (payer, payee, amount) in enumerate(entries):
        postings[payer].append((at + 1, -amount))
        postings[payee].append((at + 1, amount))
    return tuple([statement_text(account, balance, tuple(postings[account])) for account, balance in firsts])


def trial(firsts, entries):
    """(rows, sum): (account, out, in, balance) for each account, and the sum of all that goes out."""
    check_books(firsts, entries)
    paid = {account: 0 for account, _ in firsts}
    got = {account: 0 for account, _ in firsts}
    for payer, payee, amount in entries:
        paid[payer] += amount
        got[payee] += amount
    rows = [(name, paid[name], got[name], balance - paid[name] + got[name]) for name, balance in firsts]
    return tuple(rows), sum([entry[2] for entry in entries])


def changed_by(transfers):
    """A dict from accounts to what comes in, less what goes out."""
    sums = {}
    for payer, payee, amount in transfers:
        sums[payer] = sums.get(payer, 0) - amount
        sums[payee] = sums.get(payee, 0) + amount
    return sums


def netted(entries):
    """The ascending tuple of (account, amount) for all accounts that entries change."""
    check_entries(entries)
    sums = changed_by(entries)
    return tuple([(account, sums[account]) for account in sorted(sums) if sums[account] != 0])


def lots_many(amounts):
    """(many, last) for each set of places, told by bits.

    many is how often the sum can be 0 while the places are filled one by one, last is the place that is filled last
    then: so each 0 ends a lot.
    """
    sums = [0]
    told = [(0, None)]
    for places in range(1, 1 << len(amounts)):
        ahead = [at for at in range(len(amounts)) if (places >> at) & 1]
        many, last = max([(told[places ^ (1 << at)][0], at) for at in ahead])
        sums.append(sums[places ^ (1 << last)] + amounts[last])
        told.append((many + 1 if sums[places] == 0 else many, last))
    return told


def lots_of(nets):
    """The list of as many lots as can be, each a list of parts of the nets whose sum is 0."""
    told = lots_many([amount for _, amount in nets])
    lots = []
    places = len(told) - 1
    total = 0
    while places > 0:
        if total == 0:
            lots.append([])
        last = told[places][1]
        lots[-1].append(nets[last])
        total += nets[last][1]
        places = places ^ (1 << last)
    return [sorted(lot) for lot in lots]


def groups(nets):
    """As many lots of accounts as can be, the sum in each being 0."""
    check_nets(nets)
    return tuple(sorted([tuple([account for account, _ in lot]) for lot in lots_of(nets)]))


def shows_groups(nets, value):
    """Whether any value is what groups may return."""
    check_nets(nets)
    if not is_row(value, len(lots_of(nets))) or not all([isinstance(lot, tuple) for lot in value]):
        return False
    found = [account for lot in value for account in lot]
    if not all([isinstance(account, str) for account in found]) or sorted(found) != [net[0] for net in nets]:
        return False
    amounts = {account: amount for account, amount in nets}
    for lot in value:
        if list(lot) != sorted(lot) or lot == () or sum([amounts[account] for account in lot]) != 0:
            return False
    return list(value) == sorted(value)


def transfer_between(one, other, owed):
    """The transfer that leaves one with so much more, at the cost of other; with less if owed is below 0."""
    return (other, one, owed) if owed > 0 else (one, other, -owed)


def least_settling(nets):
    """(count, transfers): the fewest transfers that settle the nets, and such transfers."""
    check_nets(nets)
    transfers = []
    for lot in lots_of(nets):
        owed = 0
        for at in range(1, len(lot)):
            # This is never 0 ahead of the end: otherwise there would be one lot more.
            owed += lot[at - 1][1]
            transfers.append(transfer_between(lot[at - 1][0], lot[at][0], owed))
    return len(transfers), tuple(sorted(transfers))


def is_transfer(value):
    """Whether value is (payer, payee, amount) with an amount above 0, however great."""
    if not is_row(value, 3) or not is_account(value[0]) or not is_account(value[1]):
        return False
    return value[0] != value[1] and is_integer(value[2]) and value[2] > 0


def shows_settling(nets, value):
    """Whether any value is what least_settling may return."""
    check_nets(nets)
    many = len(nets) - len(lots_of(nets))
    if not is_row(value, 2) or not is_integer(value[0]) or value[0] != many or not is_row(value[1], many):
        return False
    transfers = value[1]
    if not all([is_transfer(transfer) for transfer in transfers]):
        return False
    if not ascends(transfers):
        return False
    # So few leave nobody's sum at 0, and nobody but those of the nets has any part in them.
    sums = changed_by(transfers)
    return tuple([(account, sums[account]) for account in sorted(sums)]) == nets
