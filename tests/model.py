"""Point 4 once more, in the most plodding way: what the tests compare oncebooked.shelves with."""

import itertools
import random


def replayed(start, deeds):
    """What one file (None: not there) is behind deeds on it."""
    lines = start
    for deed in deeds:
        if deed[0] == 'add':
            lines = (lines or ()) + (deed[2],)
        else:
            lines = deed[2]
    return lines


def told(rows):
    return tuple(sorted((name, lines) for name, lines in rows.items() if lines is not None))


def names_in(files, deeds):
    return sorted({name for name, _ in files} | {deed[1] for deed in deeds if deed[0] != 'sync'})


def done(files, deeds):
    """The files behind all deeds."""
    first = dict(files)
    return told({name: replayed(first.get(name), [deed for deed in deeds if deed[1:2] == (name,)])
                 for name in names_in(files, deeds)})


def parted(deeds):
    """The deeds up to the last sync, and those behind it."""
    at = max([0] + [place + 1 for place, deed in enumerate(deeds) if deed == ('sync',)])
    return deeds[:at], deeds[at:]


def ways(start, deeds):
    """The list of (done, signs, lines) for one file, ascending."""
    found = []
    for count in range(len(deeds) + 1):
        lines = replayed(start, deeds[:count])
        found.append((count, -1, lines))
        if count < len(deeds) and deeds[count][0] == 'add':
            line = deeds[count][2]
            for signs in range(len(line)):
                found.append((count, signs, (lines or ()) + (line[:signs],)))
    return found


def all_choices(files, deeds):
    """The list of (choices, files left) for all choices, ascending."""
    sure, later = parted(deeds)
    base = dict(done(files, sure))
    names = sorted({deed[1] for deed in later})
    per_file = [ways(base.get(name), [deed for deed in later if deed[1] == name]) for name in names]
    found = []
    for row in itertools.product(*per_file):
        rows = dict(base)
        rows.update({name: way[2] for name, way in zip(names, row)})
        found.append((tuple((way[0], way[1]) for way in row), told(rows)))
    return found


LINES = ('x', 'y', 'xy', 'xyz', 'yx')
TORN = ('',) + LINES


def drawn_lines(draw, signs, most):
    return tuple(draw.choice(signs) for _ in range(draw.randrange(most + 1)))


def drawn_files(draw):
    return tuple((name, drawn_lines(draw, TORN, 3)) for name in ('a', 'b', 'c') if draw.random() < 0.4)


def drawn_deed(draw):
    word = draw.choice(('add', 'add', 'add', 'add', 'lay', 'lay', 'sync'))
    if word == 'sync':
        return ('sync',)
    name = draw.choice(('a', 'a', 'b', 'd'))
    if word == 'add':
        return ('add', name, draw.choice(LINES))
    return ('lay', name, drawn_lines(draw, LINES, 2))


def drawn(seed):
    """Files and deeds with at most some hundred choices."""
    draw = random.Random(seed)
    return drawn_files(draw), tuple(drawn_deed(draw) for _ in range(draw.randrange(8)))


def near(files, draw):
    """Some files that differ a little from these."""
    rows = {name: lines for name, lines in files}
    name = draw.choice(('a', 'b', 'c', 'd'))
    lines = rows.get(name, ())
    what = draw.randrange(5)
    if what == 0:
        rows.pop(name, None)
    elif what == 1:
        rows[name] = lines + (draw.choice(TORN),)
    elif what == 2:
        rows[name] = lines[:-1]
    elif what == 3:
        rows[name] = lines[:-1] + (draw.choice(TORN),)
    else:
        rows[name] = lines[1:]
    return tuple(sorted(rows.items()))
