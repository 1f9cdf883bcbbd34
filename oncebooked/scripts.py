"""The script of a day: its bank, the batches of its night, and the lines behind night with what each of them asks."""

from oncebooked.basics import number_in
from oncebooked.entries import Bank, Batch, batches_of, read_head
from oncebooked.errors import BadBank, BadBatch, BadDay

MOST_SIGNS = 40000
MOST_LINES = 400
MOST_POSTED = 2500
MOST_CARRIED = 2500
MOST_NUMBER = 10 ** 6
MOST_CUTS = 20


def is_branch(bank, word):
    """Whether the word is the name of a branch."""
    return batches_of(bank, word) is not None


def are_unlike(bank, one, other):
    """Whether the words are the names of two unlike branches."""
    return is_branch(bank, one) and is_branch(bank, other) and one != other


def is_alone(_, words):
    """Whether the words are those of a line with one word."""
    return len(words) == 1


def is_of_branch(bank, words):
    """Whether the words are those of a line that has the name of a branch."""
    return len(words) == 2 and is_branch(bank, words[1])


def is_post(bank, words):
    """Whether the words are those of a line `post NAME COUNT`."""
    return len(words) == 3 and is_branch(bank, words[1]) and number_in(words[2], 0, MOST_POSTED) is not None


def is_carry(bank, words):
    """Whether the words are those of a line `carry ONE OTHER NUMBER ..`."""
    if not 3 <= len(words) <= 3 + MOST_CARRIED or not are_unlike(bank, words[1], words[2]):
        return False
    last = 1
    for word in words[3:]:
        last = number_in(word, last, MOST_NUMBER)
        if last is None:
            return False
    return True


def is_balance(bank, words):
    """Whether the words are those of a line `balance ACCOUNT`."""
    return len(words) == 2 and bank.place_of(words[1]) is not None


def is_letters(bank, words):
    """Whether the words are those of a line `letters ONE OTHER`."""
    return len(words) == 3 and are_unlike(bank, words[1], words[2])


CALLS = {"take": is_of_branch, "post": is_post, "carry": is_carry, "credit": is_of_branch}
OTHERS = {"dawn": is_alone, "row": is_of_branch, "balance": is_balance, "letters": is_letters, "way": is_alone,
          "left": is_alone}


def is_call_line(bank, words):
    """Whether the words are those of a line that calls a branch."""
    if words[0] not in CALLS:
        return False
    form = CALLS[words[0]]
    return form(bank, words)


def read_line(bank, line):
    """(cuts, words): how often the power goes, and the words of the line, or of the one that is cut.

    None for a line that has no such form.
    """
    words = line.split(" ")
    if words[0] == "cut":
        cuts = number_in(words[1], 1, MOST_CUTS) if len(words) > 2 else None
        return (cuts, words[2:]) if cuts is not None and is_call_line(bank, words[2:]) else None
    if is_call_line(bank, words):
        return (0, words)
    if words[0] not in OTHERS:
        return None
    form = OTHERS[words[0]]
    return (0, words) if form(bank, words) else None


def first_word(line):
    """The first word of the line."""
    return line.split(" ")[0]


def read_bank_in(lines):
    """(bank, at): the bank of the script, and the place of the first line behind it."""
    at = 0
    while at < len(lines) and first_word(lines[at]) not in ("batch", "night"):
        at += 1
    try:
        bank = Bank("\n".join(lines[:at]))
    except BadBank as error:
        raise BadDay(error.value) from None
    return bank, at


def read_batch_in(bank, lines, at, texts):
    """The batch that begins in this place, texts being those ahead of it by the names of branches."""
    head = read_head(bank, lines[at])
    if head is None or head[0] != len(texts[head[1]]) + 1:
        raise BadDay(at + 1)
    text = "\n".join(lines[at:at + 1 + head[2]])
    try:
        batch = Batch(bank, text)
    except BadBatch as error:
        raise BadDay(at + error.value) from None
    return batch


def read_night_in(bank, lines, begin):
    """(night, at): the night of the script, and the place of the line night."""
    texts = {name: [] for name, _ in bank.branches}
    at = begin
    while at < len(lines) and first_word(lines[at]) == "batch":
        batch = read_batch_in(bank, lines, at, texts)
        texts[batch.branch].append(batch.text)
        at += 1 + len(batch.entries)
    lacking = [name for name, many in bank.branches if len(texts[name]) < many]
    if at == len(lines) or lines[at] != "night" or lacking:
        raise BadDay(at + 1)
    return tuple([tuple(texts[name]) for name in texts]), at


def read_lines_in(bank, lines, begin):
    """The list of what read_line tells of all lines from this place on."""
    told = []
    left = {name: many for name, many in bank.branches}
    for line in lines[begin:]:
        read = read_line(bank, line)
        if read is None:
            raise BadDay(begin + len(told) + 1)
        words = read[1]
        if words[0] == "dawn":
            left = {name: 0 for name in left}
        if words[0] == "take":
            if left[words[1]] == 0:
                raise BadDay(begin + len(told) + 1)
            left[words[1]] -= 1
        told.append(read)
    return told


def read_script(text):
    """(bank, night, at, lines): at is the place of the line night, and lines what read_line tells of those behind."""
    if not isinstance(text, str) or len(text) > MOST_SIGNS:
        raise BadDay(0)
    lines = text.split("\n")
    # What stands behind the last line that may be there is not looked at: so a batch that goes on there lacks lines.
    kept = lines[:MOST_LINES]
    bank, begin = read_bank_in(kept)
    night, at = read_night_in(bank, kept, begin)
    told = read_lines_in(bank, kept, at + 1)
    if len(lines) > MOST_LINES:
        raise BadDay(MOST_LINES + 1)
    return bank, night, at, told
