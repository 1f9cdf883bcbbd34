"""The runs of a foreign way on cells, and all that is left behind them.

What a fall can leave of each cell is told by bits, one for each value. The standings that can be left then are all
ways to take one value for each cell; they too are told by bits: a field is a dict from what A and B have to a number
with one bit for each way in which S, T and the note can be.
"""

MOST_VALUE = 3
VALUES = 7
CELLS = ("A", "B", "S", "T")
NOTE = 4
FENCE = ("fence",)
WAIT = ("wait",)
NOTING = ("note",)
ONCE = ("once",)


def firsts():
    """All first standings, ascending."""
    return [(one, other, 0, 0, 0) for one in range(-1, 2) for other in range(-1, 2)]


def bit_of(value):
    """The bit that tells of this value."""
    return 1 << (value + MOST_VALUE)


def values_in(bits):
    """The list of the values of which bits tell, ascending."""
    return [at - MOST_VALUE for at in range(VALUES) if (bits >> at) & 1]


class Going:
    """A run of a way, step by step."""

    def __init__(self, way, standing):
        self.way = way
        self.at = 0
        # What the cells have now, and the bits of what each would keep if the power went.
        self.have = list(standing)
        self.kept = [bit_of(value) for value in standing]
        self.words = {"x": 0, "y": 0}

    def is_over(self):
        """Whether the run has come behind the last step."""
        return self.at == len(self.way)

    def go_on(self):
        """Does the next step."""
        step = self.way[self.at]
        word = step[0]
        self.at += 1
        if word == "read":
            self.words[step[2]] = self.have[CELLS.index(step[1])]
        elif word == "write":
            value = self.words[step[2]] + step[3]
            self.write(CELLS.index(step[1]), max(-MOST_VALUE, min(MOST_VALUE, value)))
        elif word == "note":
            self.write(NOTE, 1)
        elif word == "fence":
            self.kept = [bit_of(value) for value in self.have]
        elif word == "skip" and self.have[NOTE] == 1:
            self.at = step[1]

    def write(self, cell, value):
        """Writes the value to the cell with this number."""
        self.have[cell] = value
        self.kept[cell] = self.kept[cell] | bit_of(value)


def path_of(way, standing):
    """The list of the numbers of the steps that a run does."""
    going = Going(way, standing)
    path = []
    while not going.is_over():
        path.append(going.at)
        going.go_on()
    return path


def kept_behind(way, standing, steps):
    """The bits of what each cell keeps if the power goes behind so many steps."""
    going = Going(way, standing)
    for _ in range(steps):
        going.go_on()
    return going.kept


def standings_of(kept):
    """All standings with such values, ascending."""
    rows = [()]
    for bits in kept:
        rows = [row + (value,) for row in rows for value in values_in(bits)]
    return rows


def is_kept(kept, standing):
    """Whether each cell may have the value that it has in the standing."""
    return all([bits & bit_of(value) for bits, value in zip(kept, standing)])


def rest_bits(kept):
    """The bits of all ways in which S, T and the note can be."""
    noted = kept[NOTE] >> MOST_VALUE
    beside = sum([noted << (2 * at) for at in range(VALUES) if (kept[3] >> at) & 1])
    return sum([beside << (2 * VALUES * at) for at in range(VALUES) if (kept[2] >> at) & 1])


def rest_at(number):
    """What S, T and the note are by the bit with this number."""
    pair, noted = divmod(number, 2)
    return (pair // VALUES - MOST_VALUE, pair % VALUES - MOST_VALUE, noted)


def add_left(field, kept):
    """Adds all standings with such values to the field."""
    rest = rest_bits(kept)
    for one in values_in(kept[0]):
        for other in values_in(kept[1]):
            field[(one, other)] = field.get((one, other), 0) | rest


class Ways:
    """What is left behind the runs of a way, worked out once for each standing with which one begins."""

    def __init__(self, way):
        self.way = way
        self.fields = {}
        self.ends = {}

    def look(self, standing):
        """Works out what a run beginning with this standing leaves."""
        if standing in self.fields:
            return
        field = {}
        going = Going(self.way, standing)
        while not going.is_over():
            # Up to a fence the cells may keep more and more: so it is enough to look ahead of each, and at the end.
            if self.way[going.at] == FENCE:
                add_left(field, going.kept)
            going.go_on()
        add_left(field, going.kept)
        self.fields[standing] = field
        self.ends[standing] = going.kept

    def ends_wrong(self, first, standing):
        """Whether a run from this standing can end with another one than it has to, the story being from first."""
        self.look(standing)
        kept = self.ends[standing]
        return kept[0] != bit_of(first[0] - 1) or kept[1] != bit_of(first[1] + 1)

    def spread(self, field, standing):
        """Adds what runs from this standing leave to the field; the list of the standings that were not there."""
        self.look(standing)
        found = []
        left = self.fields[standing]
        for pair in left:
            have = field.get(pair, 0)
            news = (have | left[pair]) ^ have
            if news:
                field[pair] = have | news
                found.extend([pair + rest_at(at) for at in range(news.bit_length()) if (news >> at) & 1])
        return found


def next_front(ways, field, froms, front):
    """The list of the standings that are left behind runs from those of front, and were not left sooner."""
    found = []
    for standing in front:
        for after in ways.spread(field, standing):
            if after not in froms:
                froms[after] = standing
                found.append(after)
    return found


def steps_between(way, standing, after):
    """Behind how many steps of a run from the standing the other one can be left."""
    steps = 0
    while not is_kept(kept_behind(way, standing, steps), after):
        steps += 1
    return steps


def end_told(way, first, standing):
    """The last pair of a story whose last run begins with this standing, and ends wrong."""
    steps = len(path_of(way, standing))
    right = (first[0] - 1, first[1] + 1)
    wrong = [left for left in standings_of(kept_behind(way, standing, steps)) if left[:2] != right]
    return (steps, wrong[0])


def story_told(way, first, froms, last):
    """The story from first to a run that begins with last; froms tells from which standing each one was left."""
    row = [last]
    while froms[row[-1]] is not None:
        row.append(froms[row[-1]])
    row = row[::-1]
    pairs = [(steps_between(way, row[at - 1], row[at]), row[at]) for at in range(1, len(row))]
    return tuple(pairs) + (end_told(way, first, last),)


def judged(way):
    """What judged_way tells of a way."""
    ways = Ways(way)
    fronts = {first: [first] for first in firsts()}
    fields = {first: {} for first in firsts()}
    froms = {first: {first: None} for first in firsts()}
    # Run by run, from all first standings side by side: so no story is shorter than the one that is found.
    while any(list(fronts.values())):
        for first in firsts():
            for standing in fronts[first]:
                if ways.ends_wrong(first, standing):
                    return ("wrong", first, story_told(way, first, froms[first], standing))
        for first in firsts():
            fronts[first] = next_front(ways, fields[first], froms[first], fronts[first])
    return ONCE
