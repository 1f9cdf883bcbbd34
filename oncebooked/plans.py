"""Foreign ways to move one unit from A to B, judged for all falls."""

from itertools import combinations

from oncebooked.basics import are_ascending, is_number, is_row
from oncebooked.errors import BadNumber, BadStanding, BadWay, NotOnce, TooMany
from oncebooked.ways import CELLS, FENCE, is_kept, judged, kept_behind, MOST_VALUE, next_front, NOTE, NOTING, ONCE
from oncebooked.ways import path_of, standings_of, WAIT, Ways

MOST_STEPS = 20
MOST_FENCES = 8
NAMES = ("x", "y")


def is_cell(value):
    """Whether value is a cell that can be read and written."""
    return isinstance(value, str) and value in CELLS


def is_held(value):
    """Whether value is x or y."""
    return isinstance(value, str) and value in NAMES


def is_step(value, at, many):
    """Whether value is the step with the number at in a way of so many steps."""
    if value in (FENCE, WAIT, NOTING):
        return True
    if is_row(value, 2):
        return value[0] == "skip" and is_number(value[1], at + 1, many)
    if is_row(value, 3):
        return value[0] == "read" and is_cell(value[1]) and is_held(value[2])
    if not is_row(value, 4) or value[0] != "write":
        return False
    return is_cell(value[1]) and is_held(value[2]) and is_number(value[3], -1, 1)


def is_way(value):
    """Whether any value is a way."""
    if not isinstance(value, tuple) or len(value) > MOST_STEPS:
        return False
    return all([is_step(step, at, len(value)) for at, step in enumerate(value)])


def is_standing(value):
    """Whether any value is a standing."""
    if not is_row(value, len(CELLS) + 1) or not is_number(value[NOTE], 0, 1):
        return False
    return all([is_number(part, -MOST_VALUE, MOST_VALUE) for part in value])


def is_first(value):
    """Whether value is a first standing."""
    return is_standing(value) and value[2:] == (0, 0, 0) and -1 <= value[0] <= 1 and -1 <= value[1] <= 1


def check_way(way):
    """Raises BadWay unless way is a way."""
    if not is_way(way):
        raise BadWay(way)


def check_standing(standing):
    """Raises BadStanding unless standing is a standing."""
    if not is_standing(standing):
        raise BadStanding(standing)


def steps_run(way, standing):
    """The tuple of the numbers of the steps that a run beginning with this standing does."""
    check_way(way)
    check_standing(standing)
    return tuple(path_of(way, standing))


def left_behind(way, standing, steps):
    """The ascending tuple of all standings that are left if the power goes behind so many steps."""
    check_way(way)
    check_standing(standing)
    if not is_number(steps, 0, len(path_of(way, standing))):
        raise BadNumber(steps)
    return tuple(standings_of(kept_behind(way, standing, steps)))


def begun_with(way, first):
    """The ascending tuple of all standings with which runs can begin in stories from this first one."""
    check_way(way)
    if not is_first(first):
        raise BadStanding(first)
    ways = Ways(way)
    field = {}
    froms = {first: None}
    front = [first]
    while front:
        front = next_front(ways, field, froms, front)
    return tuple(sorted(froms))


def judged_way(way):
    """("once",), or ("wrong", first, story) with the fewest runs of all such stories."""
    check_way(way)
    return judged(way)


def is_left_by(way, standing, value):
    """Whether value is a pair (steps, standing) of a story for a run that begins with this standing."""
    if not is_row(value, 2) or not is_standing(value[1]):
        return False
    if not is_number(value[0], 0, len(path_of(way, standing))):
        return False
    return is_kept(kept_behind(way, standing, value[0]), value[1])


def is_story(way, first, value, many):
    """Whether value is a story from first with so many runs by which the way is wrong."""
    if not is_row(value, many):
        return False
    standing = first
    ended = False
    for pair in value:
        if not is_left_by(way, standing, pair):
            return False
        ended = pair[0] == len(path_of(way, standing))
        standing = pair[1]
    return ended and standing[:2] != (first[0] - 1, first[1] + 1)


def shows_wrong(way, value):
    """Whether any value is what judged_way may return for a wrong way."""
    check_way(way)
    told = judged(way)
    if told == ONCE or not is_row(value, 3) or value[0] != "wrong" or not is_first(value[1]):
        return False
    return is_story(way, value[1], value[2], len(told[2]))


def fences_of(way):
    """The list of the numbers of all fences."""
    return [at for at, step in enumerate(way) if step == FENCE]


def with_fences(way, numbers):
    """The way with no other fences than those with these numbers."""
    return tuple([WAIT if step == FENCE and at not in numbers else step for at, step in enumerate(way)])


def is_once(way):
    """Whether the way moves once."""
    return judged(way) == ONCE


def check_once(way):
    """Raises BadWay, or NotOnce if the way is wrong."""
    check_way(way)
    told = judged(way)
    if told != ONCE:
        raise NotOnce(told)


def needless_of(way):
    """The list of the numbers of all fences that can be missed one by one."""
    fences = fences_of(way)
    return [fence for fence in fences if is_once(with_fences(way, [other for other in fences if other != fence]))]


def needless_fences(way):
    """The ascending tuple of the numbers of all fences that can be missed one by one."""
    check_once(way)
    return tuple(needless_of(way))


def fewest_fences(way):
    """The fewest fences with which the way still moves once, ascending."""
    needless = needless_of(way)
    # Without more fences nothing gets right that was wrong: so all others stand in each answer.
    needed = [fence for fence in fences_of(way) if fence not in needless]
    for many in range(len(needless)):
        for more in combinations(needless, many):
            told = sorted(needed + list(more))
            if is_once(with_fences(way, told)):
                return tuple(told)
    return tuple(fences_of(way))


def check_fences(way):
    """Raises BadWay, NotOnce, or TooMany if there are more fences than can be gone through."""
    check_once(way)
    if len(fences_of(way)) > MOST_FENCES:
        raise TooMany(MOST_FENCES)


def least_fences(way):
    """An ascending tuple of fences, as few as can be, with which alone the way still moves once."""
    check_fences(way)
    return fewest_fences(way)


def shows_least_fences(way, value):
    """Whether any value is what least_fences may return."""
    check_fences(way)
    if not are_ascending(value, 0, len(way) - 1) or not all([at in fences_of(way) for at in value]):
        return False
    return len(value) == len(fewest_fences(way)) and is_once(with_fences(way, value))


def good_way():
    """A way that moves once."""
    # What A and B are to be is there for sure ahead of the note, and is written again by each run behind it.
    worked_out = (("read", "A", "x"), ("write", "S", "x", -1), ("read", "B", "y"), ("write", "T", "y", 1))
    written = (("read", "S", "x"), ("write", "A", "x", 0), ("read", "T", "y"), ("write", "B", "y", 0))
    return (("skip", 7),) + worked_out + (FENCE, NOTING, FENCE) + written + (FENCE,)
