"""Days: scripts of a night, with power that goes amid their lines, and what they show."""

from oncebooked.entries import branch_of
from oncebooked.errors import DayOver, TooEarly
from oncebooked.night import branch_in, left_over, left_to_do, on_the_way, place_of_call, Run
from oncebooked.scripts import read_script

TOO_EARLY = "too early"
# A branch does at most so many deeds in a call, and these leave at most so many ways: each comes in its turn.
DEEDS = 3
WAYS = 5


def call_of(run, words):
    """The call of a night that the words of a line ask for, as the run stands now."""
    word, name = words[:2]
    branch = branch_in(run, name)
    if word == "take":
        return (word, name, branch.taken + 1)
    if word == "post":
        return (word, name, branch.posted + int(words[2]))
    if word == "credit":
        return (word, name)
    if len(words) > 3:
        return (word, name, words[2], tuple([int(figures) for figures in words[3:]]))
    return (word, name, words[2], tuple([letter[0] for letter in branch.letters_to(words[2], 0)]))


def comes_too_early(run, call):
    """Whether the call is a credit for which it is too early."""
    if call[0] != "credit":
        return False
    try:
        run.copy().go_on(call)
    except TooEarly:
        return True
    return False


def do_call(run, call, cuts):
    """Does the call, the power going amid it so many times ahead of that; the tuple of the lines that are shown."""
    if comes_too_early(run, call):
        return (TOO_EARLY,)
    for turn in range(cuts):
        run.go_on(("cut", place_of_call(call), turn % DEEDS, turn % WAYS))
        run.go_on(call)
    run.go_on(call)
    return ()


def do_dawn(run, _):
    """Does all that is left to do."""
    for call in left_to_do(run):
        run.go_on(call)
    return ()


def show_row(run, words):
    """The bookings of a branch."""
    row = branch_in(run, words[1]).row
    return tuple([f"{word} {payer} {payee} {amount}" for word, payer, payee, amount in row])


def show_balance(run, words):
    """The balance of an account."""
    asked = words[1]
    balances = {account: balance for account, balance in branch_in(run, branch_of(asked)).balances}
    return (f"{asked}: {balances[asked]}",)


def show_letters(run, words):
    """How many letters between two branches were heard, of how many."""
    one, other = words[1:]
    sent = branch_in(run, one).letters_to(other, 0)
    heard = branch_in(run, other).heard(one)
    return (f"{heard} of {len(sent)}",)


def show_way(run, _):
    """The sum of what is on the way."""
    total = sum([letter[4] for letter in on_the_way(run)])
    return (f"on the way: {total}",)


def show_left(run, _):
    """How much is left over."""
    many = left_over(run)
    return (f"left over: {many}",)


ACTIONS = {"dawn": do_dawn, "row": show_row, "balance": show_balance, "letters": show_letters, "way": show_way,
           "left": show_left}


class Day:
    """A day that goes on line by line."""

    def __init__(self, text):
        bank, night, _, lines = read_script(text)
        self.text = text
        self.at = 0
        self._lines = lines
        self._run = Run(bank, night)

    def go_on(self):
        """Does the next line; the tuple of the lines that are shown."""
        if self.at == len(self._lines):
            raise DayOver(len(self._lines))
        cuts, words = self._lines[self.at]
        self.at += 1
        if words[0] not in ACTIONS:
            return do_call(self._run, call_of(self._run, words), cuts)
        action = ACTIONS[words[0]]
        return action(self._run, words)


def day_report(text):
    """The tuple of all lines that are shown in the day."""
    day = Day(text)
    shown = []
    while day.at < len(day._lines):
        shown.extend(day.go_on())
    return tuple(shown)


def plain_day(text):
    """The text of the script without any cut."""
    at, told = read_script(text)[2:]
    lines = text.split("\n")[:at + 1]
    return "\n".join(lines + [" ".join(words) for _, words in told])
