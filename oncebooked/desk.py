"""A desk: banks and nights under names, a journal of deeds that can be undone, and its text."""

from oncebooked.basics import is_name, number_in
from oncebooked.entries import Bank, read_head
from oncebooked.errors import BadDeed, BadDesk, BadName, BookError, Held, NoName, NoNote, NothingToRedo
from oncebooked.errors import NothingToUndo, NotThat
from oncebooked.night import balances_of, is_dawn, left_over, left_to_do, Run

MOST_WRITTEN = 10 ** 15 - 1
BANK = "bank"
NIGHT = "night"
# How many parts the deeds have, the word among them.
PARTS = {"bank": 3, "night": 4, "call": 3, "dawn": 2, "copy": 3, "drop": 2}



def is_deed(value):
    """Whether value has the form of a deed: one of the words, and as many parts behind it as told."""
    if not isinstance(value, tuple) or value == () or not isinstance(value[0], str):
        return False
    return PARTS.get(value[0]) == len(value)


def kind_of(thing):
    """The kind "bank" for a Bank, "night" for a Run."""
    return BANK if isinstance(thing, Bank) else NIGHT


def brought_to_dawn(run):
    """A run that stands as this one when all is done that is left to do."""
    after = run.copy()
    while not is_dawn(after):
        after.go_on(left_to_do(after)[0])
    return after


def called(run, call):
    """A run that stands as this one behind the call."""
    after = run.copy()
    after.go_on(call)
    return after


class Desk:
    """Banks and nights under names, and the deeds that made them what they are.

    Each deed gives one name another thing, or takes it away: so it is kept with the thing ahead of it and the one
    behind it, None for none. The Runs among these are never changed, but exchanged for others.
    """

    def __init__(self):
        self._things = {}
        self._standing = []
        self._undone = []
        self._marks = {}

    def __len__(self):
        return len(self._things)

    def __contains__(self, value):
        return isinstance(value, str) and value in self._things

    @property
    def names(self):
        """The ascending tuple of the names of all things."""
        return tuple(sorted(self._things))

    def lead(self, deed):
        """Does the deed."""
        if not is_deed(deed):
            raise BadDeed(deed)
        name = deed[2] if deed[0] == "copy" else deed[1]
        after = self._thing_behind(deed)
        many = len(self._standing)
        self._marks = {word: self._marks[word] for word in self._marks if self._marks[word] <= many}
        self._undone = []
        self._standing.append((deed, name, self._things.get(name), after))
        self._put(name, after)

    def thing_kind(self, name):
        """The kind of the thing: "bank" or "night"."""
        return kind_of(self._asked(name))

    def thing_of(self, name):
        """The Bank, or a Run that stands alike."""
        thing = self._asked(name)
        return thing if kind_of(thing) == BANK else thing.copy()

    def balances_at(self, name):
        """The tuple of (account, balance) of a bank at first, of a Run as it stands."""
        thing = self._asked(name)
        if kind_of(thing) == BANK:
            return tuple([row[:2] for row in thing.accounts])
        return balances_of(thing)

    def left(self, name):
        """How much is left over in a Run."""
        return left_over(self._asked_for(name, NIGHT))

    def undo(self):
        """Undoes the last deed that stands."""
        if not self._standing:
            raise NothingToUndo(0)
        row = self._standing.pop()
        self._undone.append(row)
        self._put(row[1], row[2])

    def redo(self):
        """Does the deed again that was undone last."""
        if not self._undone:
            raise NothingToRedo(len(self._standing))
        row = self._undone.pop()
        self._standing.append(row)
        self._put(row[1], row[3])

    def note(self, word):
        """Notes under this word how many deeds stand."""
        if not is_name(word):
            raise BadName(word)
        self._marks[word] = len(self._standing)

    def notes(self):
        """The ascending tuple of (word, number) of all notes."""
        return tuple([(word, self._marks[word]) for word in sorted(self._marks)])

    def back(self, word):
        """Undoes deeds, or does them again, until as many stand as were noted under this word."""
        if not isinstance(word, str) or word not in self._marks:
            raise NoNote(word)
        self._go_to(self._marks[word])

    def all_deeds(self):
        """The deeds that stand, and those that were undone, the one first that would be done again first."""
        return tuple([row[0] for row in self._standing]), tuple([row[0] for row in self._undone[::-1]])

    def _settle(self, many, notes):
        """Gives a desk on which all deeds stand these notes, and lets so many deeds stand; raises BadDesk."""
        most = len(self._standing)
        # As the lines of its text: first how many stand, and the notes behind that.
        for at, number in enumerate([many] + [note[1] for note in notes]):
            if number > most:
                raise BadDesk(at + 1)
        self._marks = {word: number for word, number in notes}
        self._go_to(many)

    def _go_to(self, many):
        while len(self._standing) > many:
            self.undo()
        while len(self._standing) < many:
            self.redo()

    def _put(self, name, thing):
        if thing is None:
            del self._things[name]
        else:
            self._things[name] = thing

    def _asked(self, name):
        if name not in self:
            raise NoName(name)
        return self._things[name]

    def _asked_for(self, name, kind):
        thing = self._asked(name)
        if kind_of(thing) != kind:
            raise NotThat(name)
        return thing

    def _check_new(self, name):
        if not is_name(name):
            raise BadName(name)
        if name in self:
            raise Held(name)

    def _thing_behind(self, deed):
        word = deed[0]
        if word == "bank":
            self._check_new(deed[1])
            return Bank(deed[2])
        if word == "night":
            self._check_new(deed[1])
            return Run(self._asked_for(deed[2], BANK), deed[3])
        if word == "call":
            return called(self._asked_for(deed[1], NIGHT), deed[2])
        if word == "dawn":
            return brought_to_dawn(self._asked_for(deed[1], NIGHT))
        thing = self._asked(deed[1])
        if word == "drop":
            return None
        self._check_new(deed[2])
        return thing


def call_words(call):
    """The list of the words that tell a call."""
    words = []
    for part in call:
        words.extend([str(number) for number in part] if isinstance(part, tuple) else [str(part)])
    return words


def deed_lines(deed):
    """The list of the lines of a deed."""
    if deed[0] == "bank":
        lines = deed[2].split("\n")
        return [f"bank {deed[1]} {len(lines)}"] + lines
    if deed[0] == "night":
        lines = [line for texts in deed[3] for text in texts for line in text.split("\n")]
        return [f"night {deed[1]} {deed[2]} {len(lines)}"] + lines
    if deed[0] == "call":
        return [" ".join(["call", deed[1]] + call_words(deed[2]))]
    return [" ".join(deed)]


def desk_text(desk):
    """The text of the desk."""
    standing, undone = desk.all_deeds()
    lines = [f"stand {len(standing)}"] + [f"note {word} {number}" for word, number in desk.notes()]
    for deed in standing + undone:
        lines.extend(deed_lines(deed))
    return "\n".join(lines)


def count_in(word, low=0):
    """The number from low on, with at most fifteen figures, that the word writes; None if it writes none."""
    return number_in(word, low, MOST_WRITTEN)


def are_names(words):
    """Whether all words are names."""
    return all([is_name(word) for word in words])


def read_call(words):
    """The call that these words tell; what is no call if they tell none."""
    if words[:1] == ["carry"]:
        return tuple(words[:3]) + (tuple([count_in(word) for word in words[3:]]),)
    return tuple(words[:2] + [count_in(word) for word in words[2:]])


def read_first(line):
    """A deed as its first line tells it, with the number of lines in the place of a text or a night.

    None if such a line has not its form. All others stand alone: so it is enough that they are refused without it.
    """
    words = line.split(" ")
    if words[0] == "call":
        return tuple(words[:2]) + (read_call(words[2:]),)
    if words[0] not in ("bank", "night"):
        return tuple(words)
    count = count_in(words[-1], 1 if words[0] == "bank" else 0)
    if len(words) != PARTS[words[0]] or not are_names(words[1:-1]) or count is None:
        return None
    return tuple(words[:-1]) + (count,)


def night_in(bank, lines):
    """The night whose texts have just these lines; None if there is none."""
    night = []
    at = 0
    for _, many in bank.branches:
        texts = []
        while len(texts) < many:
            head = read_head(bank, lines[at]) if at < len(lines) else None
            if head is None:
                return None
            texts.append("\n".join(lines[at:at + 1 + head[2]]))
            at += 1 + head[2]
        night.append(tuple(texts))
    return tuple(night) if at == len(lines) else None


def lead_by(desk, first, lines):
    """Leads the desk by the deed with this first line, as read_first tells it, and these lines of a text."""
    if first[0] == "bank":
        desk.lead(first[:2] + ("\n".join(lines),))
    elif first[0] == "night":
        desk.lead(first[:3] + (night_in(desk._asked_for(first[2], BANK), lines),))
    else:
        desk.lead(first)


def lead_lines(desk, lines, begin):
    """Leads the desk by all deeds that stand in the lines from this place on; raises BadDesk."""
    at = begin
    while at < len(lines):
        first = read_first(lines[at])
        if first is None:
            raise BadDesk(at + 1)
        count = first[-1] if first[0] in ("bank", "night") else 0
        if at + 1 + count > len(lines):
            raise BadDesk(len(lines) + 1)
        try:
            lead_by(desk, first, lines[at + 1:at + 1 + count])
        except BookError:
            raise BadDesk(at + 1) from None
        at += 1 + count


def read_notes(lines):
    """The list of (word, number) that the lines of notes behind the first line tell; raises BadDesk."""
    notes = []
    for line in lines[1:]:
        words = line.split(" ")
        if words[0] != "note":
            break
        number = count_in(words[2]) if len(words) == 3 else None
        if number is None or not is_name(words[1]) or (notes and words[1] <= notes[-1][0]):
            raise BadDesk(len(notes) + 2)
        notes.append((words[1], number))
    return notes


def read_desk(text):
    """The desk with this text."""
    if not isinstance(text, str):
        raise BadDesk(0)
    lines = text.split("\n")
    words = lines[0].split(" ")
    standing = count_in(words[1]) if len(words) == 2 and words[0] == "stand" else None
    if standing is None:
        raise BadDesk(1)
    notes = read_notes(lines)
    desk = Desk()
    lead_lines(desk, lines, 1 + len(notes))
    desk._settle(standing, notes)
    return desk
