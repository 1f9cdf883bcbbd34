"""Long work that is cut now and then: what cuts cost at worst, and where marks are set best against them.

Each cut costs at worst as many ticks as it takes to begin anew, and the longest stretch but for its last tick. So all
that marks are judged by is the sum of their costs and their longest stretch.
"""

from oncebooked.basics import are_ascending, is_number, is_row
from oncebooked.errors import BadMarks, BadMoments, BadNumber, BadWork

MOST_PARTS = 40
MOST_TICKS = 1000000
MOST_MOMENTS = 100
LAST_MOMENT = 10 ** 12
MOST_CUTS = 100
MOST_LENGTH = 10 ** 9


def are_numbers(value, low, many):
    """Whether value is a tuple of just so many integers from low to the most ticks."""
    return is_row(value, many) and all([is_number(part, low, MOST_TICKS) for part in value])


def check_work(work):
    """Raises BadWork unless work is a work."""
    if not is_row(work, 3) or not isinstance(work[0], tuple) or not 1 <= len(work[0]) <= MOST_PARTS:
        raise BadWork(work)
    ticks, costs, begin = work
    if not are_numbers(ticks, 1, len(ticks)) or not are_numbers(costs, 0, len(ticks) - 1):
        raise BadWork(work)
    if not is_number(begin, 0, MOST_TICKS):
        raise BadWork(work)


def are_marks(work, value):
    """Whether value is marks of the work."""
    return are_ascending(value, 0, len(work[0]) - 2)


def check_marks(work, marks):
    """Raises BadWork or BadMarks unless marks are marks of the work."""
    check_work(work)
    if not are_marks(work, marks):
        raise BadMarks(marks)


def check_number(value, low, high):
    """Raises BadNumber unless value is an integer from low to high."""
    if not is_number(value, low, high):
        raise BadNumber(value)


def are_moments(value):
    """Whether value is moments."""
    return are_ascending(value, 0, LAST_MOMENT) and len(value) <= MOST_MOMENTS


def lengths_of(work, marks):
    """The list of the lengths of the stretches."""
    ticks, costs, _ = work
    lengths = []
    begin = 0
    for mark in marks:
        lengths.append(sum(ticks[begin:mark + 1]) + costs[mark])
        begin = mark + 1
    return lengths + [sum(ticks[begin:])]


def stretches(work, marks):
    """The tuple of the lengths of the stretches, in their sequence."""
    check_marks(work, marks)
    return tuple(lengths_of(work, marks))


def longest(work, marks):
    """The length of the longest stretch."""
    check_marks(work, marks)
    return max(lengths_of(work, marks))


def time_of(work, marks, moments):
    """How many ticks the run takes."""
    lengths = lengths_of(work, marks)
    at = 0
    done = lengths[0]
    for moment in moments:
        while done <= moment:
            at += 1
            if at == len(lengths):
                return done
            done += lengths[at]
        done = moment + work[2] + lengths[at]
    return done + sum(lengths[at + 1:])


def run_time(work, marks, moments):
    """How many ticks the run takes."""
    check_marks(work, marks)
    if not are_moments(moments):
        raise BadMoments(moments)
    return time_of(work, marks, moments)


def worst_of(work, marks, cuts):
    """The greatest number of ticks that the run takes with so many cuts."""
    lengths = lengths_of(work, marks)
    return sum(lengths) + cuts * (work[2] + max(lengths) - 1)


def worst_time(work, marks, cuts):
    """The greatest run_time of all moments that have at most so many parts."""
    check_marks(work, marks)
    check_number(cuts, 0, MOST_CUTS)
    return worst_of(work, marks, cuts)


def worst_moments(work, marks, cuts):
    """Moments, at most so many, whose run_time is worst_time."""
    check_marks(work, marks)
    check_number(cuts, 0, MOST_CUTS)
    lengths = lengths_of(work, marks)
    at = lengths.index(max(lengths))
    lost = work[2] + lengths[at] - 1
    if lost == 0:
        # No cut costs anything; and there is but one moment ahead of the end of such a stretch.
        return ()
    # One tick ahead of the end of the longest stretch, again and again.
    first = sum(lengths[:at + 1]) - 1
    return tuple([first + turn * lost for turn in range(cuts)])


def shows_worst(work, marks, cuts, value):
    """Whether any value is what worst_moments may return."""
    check_marks(work, marks)
    check_number(cuts, 0, MOST_CUTS)
    if not are_moments(value) or len(value) > cuts:
        return False
    return time_of(work, marks, value) == worst_of(work, marks, cuts)


def cost_of(work, marks):
    """The sum of the costs of the marks."""
    return sum([work[1][mark] for mark in marks])


def cheapest_within(work, most):
    """(cost, marks): the cheapest marks with which no stretch is longer than most; None if there are none."""
    ticks, costs, _ = work
    many = len(ticks)
    # What is cheapest for the parts up to each one, if it is marked, or is the last one.
    best = [(0, ())]
    for end in range(1, many + 1):
        cost = costs[end - 1] if end < many else 0
        length = cost
        found = None
        for begin in range(end - 1, -1, -1):
            length += ticks[begin]
            if length > most:
                break
            if best[begin] is not None and (found is None or best[begin][0] < found[0]):
                found = best[begin]
        if found is not None and end < many:
            found = (found[0] + cost, found[1] + (end - 1,))
        best.append(found)
    return best[many]


def cheapest_marks(work, most):
    """(cost, marks): the cheapest marks with which no stretch is longer than most; None if there are none."""
    check_work(work)
    check_number(most, 1, MOST_LENGTH)
    return cheapest_within(work, most)


def shows_cheapest(work, most, value):
    """Whether any value is what cheapest_marks may return."""
    check_work(work)
    check_number(most, 1, MOST_LENGTH)
    found = cheapest_within(work, most)
    if found is None or value is None:
        return found is None and value is None
    if not is_row(value, 2) or not is_number(value[0], found[0], found[0]) or not are_marks(work, value[1]):
        return False
    return cost_of(work, value[1]) == found[0] and max(lengths_of(work, value[1])) <= most


def candidates(work):
    """The list of marks that nothing can better: with a shorter longest stretch all marks cost more."""
    found = []
    most = MOST_LENGTH
    told = cheapest_within(work, most)
    while told is not None:
        found.append(told[1])
        most = max(lengths_of(work, told[1])) - 1
        told = cheapest_within(work, most)
    return found


def lines_of(work):
    """A list of (marks, time, more) for the candidates: time without cuts, and more for each cut at worst."""
    told = [(marks, lengths_of(work, marks)) for marks in candidates(work)]
    return [(marks, sum(lengths), work[2] + max(lengths) - 1) for marks, lengths in told]


def least_among(lines, cuts):
    """(time, marks) with the least worst time for so many cuts."""
    return min([(time + cuts * more, marks) for marks, time, more in lines])


def least_worst(work, cuts):
    """(time, marks): the least worst_time of all marks, and marks that have it."""
    check_work(work)
    check_number(cuts, 0, MOST_CUTS)
    return least_among(lines_of(work), cuts)


def shows_least(work, cuts, value):
    """Whether any value is what least_worst may return."""
    check_work(work)
    check_number(cuts, 0, MOST_CUTS)
    time = least_among(lines_of(work), cuts)[0]
    if not is_row(value, 2) or not is_number(value[0], time, time) or not are_marks(work, value[1]):
        return False
    return worst_of(work, value[1], cuts) == time


def least_times(work, cuts):
    """The tuple of the least worst_time for 0, 1, .., cuts cuts."""
    check_work(work)
    check_number(cuts, 0, MOST_CUTS)
    lines = lines_of(work)
    return tuple([least_among(lines, many)[0] for many in range(cuts + 1)])


def regret_of(work, marks, cuts, least):
    """The regret of the marks, least being the least times for no cuts and for all."""
    # Between these the least times bend downwards, and those of the marks do not bend: so it is greatest at an end.
    return max(worst_of(work, marks, 0) - least[0], worst_of(work, marks, cuts) - least[1])


def least_ends(lines, cuts):
    """The least times for no cuts and for so many."""
    return least_among(lines, 0)[0], least_among(lines, cuts)[0]


def least_regret(work, cuts):
    """(amount, marks): the least regret of all marks, and marks that have it."""
    check_work(work)
    check_number(cuts, 0, MOST_CUTS)
    lines = lines_of(work)
    least = least_ends(lines, cuts)
    return min([(regret_of(work, marks, cuts, least), marks) for marks, _, _ in lines])


def shows_regret(work, cuts, value):
    """Whether any value is what least_regret may return."""
    check_work(work)
    check_number(cuts, 0, MOST_CUTS)
    lines = lines_of(work)
    least = least_ends(lines, cuts)
    amount = min([regret_of(work, marks, cuts, least) for marks, _, _ in lines])
    if not is_row(value, 2) or not is_number(value[0], amount, amount) or not are_marks(work, value[1]):
        return False
    return regret_of(work, value[1], cuts, least) == amount
