"""The night of a whole bank: calls, cuts, and what is left to do until dawn."""

from oncebooked.basics import is_number
from oncebooked.branch import Branch, MOST_LETTERS, MOST_NUMBER, new_branch
from oncebooked.entries import Bank, batches_of
from oncebooked.errors import BadCall, BadCalls, Early, NoBranch, TooEarly
from oncebooked.plainly import letters_of, plain_night
from oncebooked.shelves import left_by, Shelf, tails_of, ways_numbered

MOST_CALLS = 1000
MOST_DEEDS_AHEAD = 1000
MOST_WAYS = 10 ** 12
LEAST_BANK = "branch a 0"


def names_of(bank):
    """The list of the names of all branches, in their order."""
    return [name for name, _ in bank.branches]


def pairs_of(bank):
    """The list of (one, other) for all ordered pairs of unlike branches."""
    names = names_of(bank)
    return [(one, other) for one in names for other in names if one != other]


def are_letter_numbers(value):
    """Whether value is what a call can carry."""
    if not isinstance(value, tuple) or len(value) > MOST_LETTERS:
        return False
    return all([is_number(number, 1, MOST_NUMBER) for number in value])


def is_call(bank, value):
    """Whether value is a call for a night of the bank."""
    if not isinstance(value, tuple) or not 2 <= len(value) <= 4 or value[1] not in names_of(bank):
        return False
    word = value[0]
    if len(value) == 2:
        return word == "credit"
    if len(value) == 3:
        if word == "take":
            return is_number(value[2], 1, batches_of(bank, value[1]))
        return word == "post" and is_number(value[2], 0, MOST_NUMBER)
    if word == "carry":
        return value[2] in names_of(bank) and value[1] != value[2] and are_letter_numbers(value[3])
    return word == "cut" and is_number(value[2], 0, MOST_DEEDS_AHEAD) and is_number(value[3], 0, MOST_WAYS)


def place_of_call(call):
    """The name of the branch at which the call is done."""
    return call[2] if call[0] == "carry" else call[1]


class Run:
    """A night of a bank as it goes, each branch on a shelf."""

    def __init__(self, bank, night):
        rows = plain_night(bank, night)
        self.bank = bank
        self.night = night
        self._rows = {name: row for name, row in zip(names_of(bank), rows)}
        self._letters = {(one, other): len(letters_of(self._rows[one], other)) for one, other in pairs_of(bank)}
        self._cuts = {}
        self._shelves = {name: Shelf(()) for name in names_of(bank)}
        for name in names_of(bank):
            new_branch(self._shelves[name], bank, name)
        self._branches = {name: Branch(self._shelves[name]) for name in self._shelves}
        # The names of those whose shelves and branches a copy has, too.
        self._shared = {}

    @property
    def cuts(self):
        """The tuple of all cuts that have not come yet, in the order of the branches."""
        return tuple([self._cuts[name] for name in self._shelves if name in self._cuts])

    def go_on(self, call):
        """Does the call; "noted", "cut" or "done"."""
        if not is_call(self.bank, call):
            raise BadCall(call)
        if call[0] == "cut":
            self._cuts[call[1]] = call
            return "noted"
        self._make_own(place_of_call(call))
        if place_of_call(call) in self._cuts:
            self._do_cut(call)
            return "cut"
        self._do(call)
        return "done"

    def shelf_of(self, name):
        """A copy of the shelf of this branch."""
        if name not in names_of(self.bank):
            raise NoBranch(name)
        return self._shelves[name].copy()

    def branch_at(self, name):
        """The branch, looked up on a copy of its shelf."""
        return Branch(self.shelf_of(name))

    def copy(self):
        """A run that stands alike."""
        # Made for the least night and then given all that this one has: to read a whole night again takes long.
        twin = Run(Bank(LEAST_BANK), ((),))
        twin.bank = self.bank
        twin.night = self.night
        twin._rows = self._rows
        twin._letters = self._letters
        twin._cuts = dict(self._cuts)
        twin._shelves = dict(self._shelves)
        twin._branches = dict(self._branches)
        # Each of both copies a shelf as late as it is about to write on it.
        self._shared = {name: True for name in self._shelves}
        twin._shared = dict(self._shared)
        return twin

    def _make_own(self, name):
        if name in self._shared:
            self._shelves[name] = self._shelves[name].copy()
            self._branches[name] = Branch(self._shelves[name])
            del self._shared[name]

    def _do_cut(self, call):
        name = place_of_call(call)
        shelf = self._shelves[name]
        files = shelf.files
        many = len(shelf.log)
        self._do(call)
        deeds, number = self._cuts[name][2:]
        ahead = shelf.log[many:many + deeds]
        choices = tuple(ways_numbered(tails_of(ahead), number))
        self._shelves[name] = Shelf(left_by(files, ahead, choices))
        self._branches[name] = Branch(self._shelves[name])
        del self._cuts[name]

    def _do(self, call):
        word = call[0]
        branch = self._branches[place_of_call(call)]
        if word == "take":
            branch.take(self.night[names_of(self.bank).index(call[1])][call[2] - 1])
        elif word == "post":
            branch.post(call[2])
        elif word == "carry":
            letters = self._branches[call[1]].letters_to(call[2], 0)
            branch.hear(call[1], tuple([letters[number - 1] for number in call[3] if number <= len(letters)]))
        else:
            self._credit(branch)

    def _credit(self, branch):
        if branch.is_credited:
            return
        for name in self._branches:
            if not has_booked_all(self, name):
                raise TooEarly(name)
        # All have booked all: so these are the letters of the plain night.
        others = [name for name in self._branches if name != branch.name]
        branch.credit(tuple([(other, self._letters[(other, branch.name)]) for other in others]))


def branch_in(run, name):
    """The branch as it lies in the run: it may be asked, and nothing else."""
    return run._branches[name]


def has_booked_all(run, name):
    """Whether this branch has taken all its batches and booked all their entries."""
    branch = run._branches[name]
    return branch.taken == batches_of(run.bank, name) and branch.posted == len(run._rows[name])


def balances_of(run):
    """The tuple of (account, balance) for all accounts of the bank, as their branches tell them."""
    told = {}
    for name in run._branches:
        for account, balance in run._branches[name].balances:
            told[account] = balance
    return tuple([(row[0], told[row[0]]) for row in run.bank.accounts])


def on_the_way(run):
    """The tuple of (one, other, number, payee, amount) of all letters that are booked and not credited."""
    found = []
    for one, other in pairs_of(run.bank):
        if not run._branches[other].is_credited:
            letters = run._branches[one].letters_to(other, 0)
            found.extend([(one, other) + letter for letter in letters])
    return tuple(found)


def missing(run):
    """What the bank has at first, less all that lies in the branches and is on the way between them."""
    first = sum([account[1] for account in run.bank.accounts])
    lying = sum([balance for _, balance in balances_of(run)])
    return first - lying - sum([letter[4] for letter in on_the_way(run)])


def left_over(run):
    """How many batches, entries, letters and credits are still to come."""
    many = 0
    for name in run._branches:
        branch = run._branches[name]
        many += batches_of(run.bank, name) - branch.taken
        many += len(run._rows[name]) - branch.posted
        many += 0 if branch.is_credited else 1
    for one, other in pairs_of(run.bank):
        many += run._letters[(one, other)] - run._branches[other].heard(one)
    return many


def left_to_do(run):
    """The tuple of calls that lead to dawn."""
    calls = []
    for name, many in run.bank.branches:
        calls.extend([("take", name, at + 1) for at in range(run._branches[name].taken, many)])
    for name in run._branches:
        if run._branches[name].posted < len(run._rows[name]):
            calls.append(("post", name, len(run._rows[name])))
    for one, other in pairs_of(run.bank):
        heard = run._branches[other].heard(one)
        if heard < run._letters[(one, other)]:
            calls.append(("carry", one, other, tuple(range(heard + 1, run._letters[(one, other)] + 1))))
    for name in run._branches:
        if not run._branches[name].is_credited:
            calls.append(("credit", name))
    return tuple(calls)


def is_dawn(run):
    """Whether nothing is left to do."""
    return left_over(run) == 0


def run_through(bank, night, calls):
    """The Run behind these calls; those that come too early change nothing."""
    run = Run(bank, night)
    if not isinstance(calls, tuple) or len(calls) > MOST_CALLS:
        raise BadCalls(None)
    for at, call in enumerate(calls):
        if not is_call(bank, call):
            raise BadCalls(at)
    for call in calls:
        try:
            run.go_on(call)
        except (Early, TooEarly):
            pass
    return run
