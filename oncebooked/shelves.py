"""Shelves: files that outlast a fall, and all that a fall can leave on them.

A tail is the list of the deeds on one file behind the last sync. A way is a pair (done, signs):
so many deeds of a tail are done, and, if signs is not -1, so many signs of the next line are torn.
"""

from oncebooked.basics import ascends, is_name, is_number, is_row
from oncebooked.errors import BadChoices, BadDeeds, BadFiles, BadLine, BadLines, BadName
from oncebooked.errors import BadNumber, Full, NotLeft, TooMany

MOST_FILES = 40
MOST_LINES = 20000
MOST_SIGNS = 200
MOST_DEEDS = 50000
MOST_CHOICES = 10 ** 18
MOST_TOLD = 5000
MOST_NUMBER = 10 ** 9


def is_line(value):
    """Whether any value is a line; the empty string is none."""
    return value != "" and is_whole_or_torn(value)


def is_whole_or_torn(value):
    """Whether value can stand in a file: a line, or what may be left of a torn one."""
    if not isinstance(value, str) or len(value) > MOST_SIGNS:
        return False
    return value.isascii() and value.isprintable()


def are_lines(value):
    """Whether value is a tuple of lines that a file can be laid with."""
    if not isinstance(value, tuple) or len(value) > MOST_LINES:
        return False
    return all([is_line(line) for line in value])


def is_deed(value):
    """Whether any value is a deed."""
    if is_row(value, 1):
        return value[0] == "sync"
    if not is_row(value, 3) or not is_name(value[1]):
        return False
    if value[0] == "add":
        return is_line(value[2])
    return value[0] == "lay" and are_lines(value[2])


def is_file(value):
    """Whether value is a pair (name, lines), torn lines let in."""
    if not is_row(value, 2) or not is_name(value[0]):
        return False
    if not isinstance(value[1], tuple) or len(value[1]) > MOST_LINES:
        return False
    return all([is_whole_or_torn(line) for line in value[1]])


def are_files(value):
    """Whether any value is the files of a shelf."""
    if not isinstance(value, tuple) or len(value) > MOST_FILES:
        return False
    if not all([is_file(part) for part in value]):
        return False
    return ascends([part[0] for part in value])


def rows_of(files):
    """A dict from names to lists of lines, with which deeds can be done."""
    return {name: list(lines) for name, lines in files}


def files_of(rows):
    """The files of a shelf, from a dict from names to lines."""
    return tuple([(name, tuple(rows[name])) for name in sorted(rows)])


def has_room(rows, deed):
    """Whether there are neither too many files nor too many lines behind this deed."""
    if deed[0] == "sync":
        return True
    if deed[1] not in rows:
        return len(rows) < MOST_FILES
    return deed[0] == "lay" or len(rows[deed[1]]) < MOST_LINES


def do_deed(rows, deed):
    """Does the deed in rows."""
    if deed[0] == "add":
        rows.setdefault(deed[1], []).append(deed[2])
    if deed[0] == "lay":
        rows[deed[1]] = list(deed[2])


class Shelf:
    """Files that outlast a fall, and the deeds that were done on them."""

    def __init__(self, files):
        if not are_files(files):
            raise BadFiles(files)
        self._rows = rows_of(files)
        self._deeds = []

    @property
    def files(self):
        """The files that are there now."""
        return files_of(self._rows)

    @property
    def log(self):
        """All deeds that were done, in their sequence."""
        return tuple(self._deeds)

    def read(self, file):
        """The tuple of the lines of the file; None if it is not there."""
        if not is_name(file):
            raise BadName(file)
        if file not in self._rows:
            return None
        return tuple(self._rows[file])

    def add(self, file, line):
        """Puts the line behind those of the file."""
        if not is_name(file):
            raise BadName(file)
        if not is_line(line):
            raise BadLine(line)
        self._enter(("add", file, line))

    def lay(self, file, lines):
        """Gives the file these lines and no others."""
        if not is_name(file):
            raise BadName(file)
        if not are_lines(lines):
            raise BadLines(lines)
        self._enter(("lay", file, lines))

    def sync(self):
        """Makes sure of all that was done so far."""
        self._enter(("sync",))

    def copy(self):
        """A shelf that stands alike, with the same log."""
        twin = Shelf(())
        twin._rows = {name: list(self._rows[name]) for name in self._rows}
        twin._deeds = list(self._deeds)
        return twin

    def _enter(self, deed):
        if not has_room(self._rows, deed):
            raise Full(deed[1])
        do_deed(self._rows, deed)
        self._deeds.append(deed)


def checked_rows(files, deeds):
    """What rows_of the files is behind the deeds; raises BadFiles, BadDeeds."""
    if not are_files(files):
        raise BadFiles(files)
    if not isinstance(deeds, tuple) or len(deeds) > MOST_DEEDS:
        raise BadDeeds(None)
    rows = rows_of(files)
    for at, deed in enumerate(deeds):
        if not is_deed(deed) or not has_room(rows, deed):
            raise BadDeeds(at)
        do_deed(rows, deed)
    return rows


def done_deeds(files, deeds):
    """The files behind all these deeds, nothing being cut."""
    return files_of(checked_rows(files, deeds))


def sure_many(deeds):
    """How many deeds there are up to the last sync, it among them."""
    many = len(deeds)
    while many > 0 and deeds[many - 1][0] != "sync":
        many -= 1
    return many


def tails_of(deeds):
    """The list of (file, tail) for all files with a tail, ascending."""
    found = {}
    for deed in deeds[sure_many(deeds):]:
        found.setdefault(deed[1], []).append(deed)
    return [(name, found[name]) for name in sorted(found)]


def at_cut(files, deeds):
    """(base, tails): what is there for sure, as a dict of tuples, and tails_of; raises as checked_rows."""
    checked_rows(files, deeds)
    rows = rows_of(files)
    for deed in deeds[:sure_many(deeds)]:
        do_deed(rows, deed)
    return {name: tuple(rows[name]) for name in rows}, tails_of(deeds)


def pending(files, deeds):
    """The tuple of (file, count) for all files on which deeds were done behind the last sync."""
    checked_rows(files, deeds)
    return tuple([(name, len(tail)) for name, tail in tails_of(deeds)])


def torn_many(tail, done):
    """How many torn lines there can be behind so many deeds of the tail."""
    if done == len(tail) or tail[done][0] == "lay":
        return 0
    return len(tail[done][2])


def ways_many(tail):
    """How many ways a cut can leave a file with this tail."""
    return sum([1 + torn_many(tail, done) for done in range(len(tail) + 1)])


def ways_of(tail):
    """All ways of a tail, ascending."""
    return [(done, signs) for done in range(len(tail) + 1) for signs in range(-1, torn_many(tail, done))]


def way_at(tail, number):
    """The way with this number, without going through all of them one by one."""
    rest = number
    done = 0
    while rest > torn_many(tail, done):
        rest = rest - 1 - torn_many(tail, done)
        done += 1
    return (done, rest - 1)


def is_way_of(tail, value):
    """Whether value is a way of this tail."""
    if not is_row(value, 2) or not is_number(value[0], 0, len(tail)):
        return False
    return is_number(value[1], -1, torn_many(tail, value[0]) - 1)


def lines_left(start, tail, way):
    """The tuple of lines with which a way leaves a file that has start; None if it is not there."""
    done, signs = way
    if way == (0, -1):
        return start
    begin = done
    while begin > 0 and tail[begin - 1][0] == "add":
        begin -= 1
    have = tail[begin - 1][2] if begin > 0 else start or ()
    torn = (tail[done][2][:signs],) if signs >= 0 else ()
    return have + tuple([deed[2] for deed in tail[begin:done]]) + torn


def files_with(base, tails, changed):
    """The files of base, those with a tail changed to these lines (to None: not there)."""
    rows = {name: base[name] for name in base}
    for (name, _), lines in zip(tails, changed):
        if lines is not None:
            rows[name] = lines
    return files_of(rows)


def left_with(base, tails, choices):
    """The files that a cut leaves with these choices."""
    changed = [lines_left(base.get(name), tail, way) for (name, tail), way in zip(tails, choices)]
    return files_with(base, tails, changed)


def left_by(files, deeds, choices):
    """The files that a cut leaves with these choices."""
    base, tails = at_cut(files, deeds)
    if not is_row(choices, len(tails)):
        raise BadChoices(choices)
    if not all([is_way_of(tail, way) for (_, tail), way in zip(tails, choices)]):
        raise BadChoices(choices)
    return left_with(base, tails, choices)


def choices_many(tails, most):
    """How many choices there are; raises TooMany(most) if there are more than that."""
    many = 1
    for _, tail in tails:
        many = many * ways_many(tail)
    if many > most:
        raise TooMany(most)
    return many


def cuts_many(files, deeds):
    """How many choices there are."""
    checked_rows(files, deeds)
    return choices_many(tails_of(deeds), MOST_CHOICES)


def ways_numbered(tails, number):
    """The list of a way for each tail, by one number for all: the first file's changes first."""
    ways = []
    rest = number
    for _, tail in tails:
        many = ways_many(tail)
        ways.append(way_at(tail, rest % many))
        rest = rest // many
    return ways


def choices_at(tails, number):
    """The choices with this number: the last file's change first."""
    return tuple(reversed(ways_numbered(list(reversed(tails)), number)))


def nth_left(files, deeds, number):
    """What left_by tells for the choices with this number, counted round."""
    base, tails = at_cut(files, deeds)
    if not is_number(number, 0, MOST_NUMBER):
        raise BadNumber(number)
    many = choices_many(tails, MOST_CHOICES)
    return left_with(base, tails, choices_at(tails, number % many))


def all_left(files, deeds):
    """The tuple of what left_by tells for all choices, these ascending."""
    base, tails = at_cut(files, deeds)
    choices_many(tails, MOST_TOLD)
    rows = [()]
    for name, tail in tails:
        told = [lines_left(base.get(name), tail, way) for way in ways_of(tail)]
        rows = [row + (lines,) for row in rows for lines in told]
    return tuple([files_with(base, tails, row) for row in rows])


def way_behind(tail, done, have, lines):
    """The way that leaves these lines by adds alone, behind so many deeds of the tail, which leave have.

    None if there is none.
    """
    if lines[:len(have)] != have:
        return None
    at = done
    place = len(have)
    while place < len(lines) and at < len(tail) and tail[at][0] == "add" and tail[at][2] == lines[place]:
        at += 1
        place += 1
    if place == len(lines):
        return (at, -1)
    signs = len(lines[place])
    if place + 1 == len(lines) and signs < torn_many(tail, at) and tail[at][2].startswith(lines[place]):
        return (at, signs)
    return None


def way_leaving(start, tail, lines):
    """A way that leaves these lines, None for a file that is not there; None if there is no way."""
    if start == lines:
        return (0, -1)
    if lines is None:
        return None
    # Each lay forgets what was ahead of it: so the ways fall into runs of adds, each with its own beginning.
    begins = [(at + 1, deed[2]) for at, deed in enumerate(tail) if deed[0] == "lay"]
    # A file that comes into being by an add is never there without lines.
    if start is not None or lines != ():
        begins.append((0, start or ()))
    for done, have in begins:
        way = way_behind(tail, done, have, lines)
        if way is not None:
            return way
    return None


def choices_leaving(base, tails, value):
    """Choices with which a cut leaves value; None if there are none."""
    if not are_files(value):
        return None
    rows = {name: lines for name, lines in value}
    choices = [way_leaving(base.get(name), tail, rows.get(name)) for name, tail in tails]
    if None in choices or left_with(base, tails, choices) != value:
        return None
    return tuple(choices)


def is_left(files, deeds, value):
    """Whether any value is what left_by tells for some choices."""
    base, tails = at_cut(files, deeds)
    return choices_leaving(base, tails, value) is not None


def choices_for(files, deeds, value):
    """Choices with which left_by tells value."""
    base, tails = at_cut(files, deeds)
    choices = choices_leaving(base, tails, value)
    if choices is None:
        raise NotLeft(value)
    return choices
