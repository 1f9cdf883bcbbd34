"""Statements of one account: whether they add up, and the fewest of their numbers that have to be wrong.

The numbers of a draft are kept as a dict from (line, word) to the number that stands there. The steps lie in a row:
a balance between two of them takes from the one what it gives to the other; an amount, and the first and the last
balance, change a single step. So as many numbers have to be others as there are steps, less the greatest number of
runs of steps, none in two of them, each of which is off by 0 in all.
"""

from oncebooked.basics import are_ascending, is_account, is_integer, is_number, is_row, number_in
from oncebooked.errors import BadAccount, BadDraft, BadNumber, BadPages, BadPostings

MOST_POSTINGS = 500
MOST_NUMBER = 10 ** 9
MOST_WRITTEN = 10 ** 18
MOST_BEFORE = 10 ** 15
MOST_AMOUNT = 10 ** 12
AMOUNT = "amount"
BALANCE = "balance"
# The lines of a draft with its first balance, and with the one behind its first step.
FIRST_LINE = 2
STEP_LINE = 3


def read_account(line):
    """The account as the first line of a draft tells it; None for another line."""
    words = line.split(" ")
    if len(words) != 2 or words[0] != "statement" or not is_account(words[1]):
        return None
    return words[1]


def read_balance(line, word):
    """The balance as a line with this word tells it; None for another line."""
    words = line.split(" ")
    if len(words) != 2 or words[0] != word:
        return None
    return number_in(words[1], -MOST_WRITTEN, MOST_WRITTEN)


def read_posting(line, last):
    """(number, amount, balance) as the line of a posting behind the number last tells it; None for another line."""
    words = line.split(" ")
    if len(words) != 4 or words[0] != "posting":
        return None
    number = number_in(words[1], last + 1, MOST_NUMBER)
    amount = number_in(words[2], -MOST_WRITTEN, MOST_WRITTEN)
    balance = number_in(words[3], -MOST_WRITTEN, MOST_WRITTEN)
    if number is None or amount is None or balance is None:
        return None
    return number, amount, balance


def read_draft(draft):
    """(account, before, rows, behind) as the draft tells them, rows having (number, amount, balance)."""
    if not isinstance(draft, str):
        raise BadDraft(0)
    lines = draft.split("\n")
    account = read_account(lines[0])
    if account is None:
        raise BadDraft(1)
    before = read_balance(lines[1], "before") if len(lines) > 1 else None
    if before is None:
        raise BadDraft(FIRST_LINE)
    rows = []
    for at, line in enumerate(lines[2:]):
        behind = read_balance(line, "behind")
        if behind is not None:
            if at + STEP_LINE < len(lines):
                raise BadDraft(at + STEP_LINE + 1)
            return account, before, tuple(rows), behind
        posting = read_posting(line, rows[-1][0] if rows else 0)
        if posting is None or len(rows) == MOST_POSTINGS:
            raise BadDraft(at + STEP_LINE)
        rows.append(posting)
    raise BadDraft(len(lines) + 1)


def is_draft(value):
    """Whether any value is a draft."""
    try:
        read_draft(value)
    except BadDraft:
        return False
    return True


def numbers_in(draft):
    """The numbers of the draft, in the sequence in which mends stand."""
    _, before, rows, behind = read_draft(draft)
    numbers = {(FIRST_LINE, BALANCE): before}
    for at, (_, amount, balance) in enumerate(rows):
        numbers[(at + STEP_LINE, AMOUNT)] = amount
        numbers[(at + STEP_LINE, BALANCE)] = balance
    numbers[(len(rows) + STEP_LINE, BALANCE)] = behind
    return numbers


def offs_in(numbers):
    """The list of by how much each step is off."""
    offs = []
    have = numbers[(FIRST_LINE, BALANCE)]
    # Each step has two numbers of its own, but the last one, which has the first balance for its amount.
    for line in range(STEP_LINE, STEP_LINE + len(numbers) // 2):
        balance = numbers[(line, BALANCE)]
        offs.append(balance - have - numbers.get((line, AMOUNT), 0))
        have = balance
    return offs


def adds_up(draft):
    """Whether no step of the draft is off."""
    return not any(offs_in(numbers_in(draft)))


def steps_off(draft):
    """The tuple of (step, by) for all steps that are off."""
    return tuple([(at + 1, off) for at, off in enumerate(offs_in(numbers_in(draft))) if off != 0])


def zero_runs(offs):
    """The list of (begin, end), end not among them, for as many runs off by 0 in all as can be, none in two.

    Each one ends as soon as any could behind the one ahead: so no part of it, from its begin on, is off by 0.
    """
    found = []
    begins = {0: 0}
    total = 0
    for at, off in enumerate(offs):
        total += off
        if total in begins:
            found.append((begins[total], at + 1))
            begins = {}
        begins[total] = at + 1
    return found


def mends_of(numbers):
    """The tuple of the fewest mends."""
    offs = offs_in(numbers)
    runs = {step: run for run in zero_runs(offs) for step in range(run[0], run[1])}
    mends = []
    for step, off in enumerate(offs):
        line = step + STEP_LINE
        if step not in runs:
            # What is off is laid upon the step's own number.
            if (line, AMOUNT) in numbers:
                mends.append((line, AMOUNT, numbers[(line, AMOUNT)] + off))
            else:
                mends.append((line, BALANCE, numbers[(line, BALANCE)] - off))
        elif step + 1 < runs[step][1]:
            mends.append((line, BALANCE, numbers[(line, BALANCE)] - sum(offs[runs[step][0]:step + 1])))
    return tuple(mends)


def least_mends(draft):
    """(count, mends): the fewest numbers that have to be others so that the draft adds up, and such others."""
    mends = mends_of(numbers_in(draft))
    return (len(mends), mends)


def is_mend(numbers, value):
    """Whether value is (line, word, number) with another number than the one that stands there."""
    if not is_row(value, 3) or not is_integer(value[0]) or not isinstance(value[1], str):
        return False
    if value[:2] not in numbers or not is_integer(value[2]):
        return False
    return numbers[value[:2]] != value[2]


def mended(numbers, mends):
    """The numbers with these mends; None unless they are mends that ascend."""
    made = {place: numbers[place] for place in numbers}
    last = (0, "")
    for mend in mends:
        if not is_mend(numbers, mend) or mend[:2] <= last:
            return None
        last = mend[:2]
        made[last] = mend[2]
    return made


def shows_least_mends(draft, value):
    """Whether any value is what least_mends may return."""
    numbers = numbers_in(draft)
    many = len(mends_of(numbers))
    if not is_row(value, 2) or not is_number(value[0], many, many) or not is_row(value[1], many):
        return False
    made = mended(numbers, value[1])
    return made is not None and not any(offs_in(made))


def why_fewest(draft):
    """The fewest steps such that each run off by 0 in all has one of them."""
    return tuple([end for _, end in zero_runs(offs_in(numbers_in(draft)))])


def shows_why(draft, value):
    """Whether any value is what why_fewest may return."""
    offs = offs_in(numbers_in(draft))
    if not are_ascending(value, 1, len(offs)) or len(value) != len(zero_runs(offs)):
        return False
    # The steps that are told part the others into pieces, and no run may lie within one of these.
    begins = (0,) + value
    ends = [step - 1 for step in value] + [len(offs)]
    return not any([zero_runs(offs[begin:end]) for begin, end in zip(begins, ends)])


def are_postings(value):
    """Whether value is a tuple of postings (number, amount)."""
    if not isinstance(value, tuple) or len(value) > MOST_POSTINGS:
        return False
    if not all([is_row(part, 2) and is_number(part[1], -MOST_AMOUNT, MOST_AMOUNT) for part in value]):
        return False
    return are_ascending(tuple([part[0] for part in value]), 1, MOST_NUMBER)


def check_statement(account, before, postings):
    """Raises BadAccount, BadNumber or BadPostings unless a statement can have these."""
    if not is_account(account):
        raise BadAccount(account)
    if not is_number(before, -MOST_BEFORE, MOST_BEFORE):
        raise BadNumber(before)
    if not are_postings(postings):
        raise BadPostings(postings)


def text_of(account, before, postings):
    """The text of the statement with these."""
    lines = [f"statement {account}", f"before {before}"]
    have = before
    for number, amount in postings:
        have += amount
        lines.append(f"posting {number} {amount} {have}")
    return "\n".join(lines + [f"behind {have}"])


def statement_text(account, before, postings):
    """The statement with these."""
    check_statement(account, before, postings)
    return text_of(account, before, postings)


def paged(account, before, postings, lines):
    """The tuple of statements of pages, each with so many postings, or those that are left."""
    check_statement(account, before, postings)
    if not is_number(lines, 1, MOST_POSTINGS):
        raise BadNumber(lines)
    pages = []
    have = before
    for at in range(0, max(len(postings), 1), lines):
        part = postings[at:at + lines]
        pages.append(text_of(account, have, part))
        have += sum([amount for _, amount in part])
    return tuple(pages)


def goes_on(ahead, page):
    """Whether page, as read_draft tells it, can stand behind the rows and the end of the pages ahead."""
    account, rows, behind = ahead
    if page[0] != account or page[1] != behind:
        return False
    return not rows or not page[2] or rows[-1][0] < page[2][0][0]


def joined_pages(pages):
    """(account, before, postings) of all pages together."""
    if not isinstance(pages, tuple) or pages == ():
        raise BadPages(None)
    rows = []
    first = None
    behind = 0
    for at, text in enumerate(pages):
        if not is_draft(text) or not adds_up(text):
            raise BadPages(at)
        page = read_draft(text)
        first = first or page
        if at > 0 and not goes_on((first[0], rows, behind), page):
            raise BadPages(at)
        rows.extend(page[2])
        behind = page[3]
    return first[0], first[1], tuple([row[:2] for row in rows])
