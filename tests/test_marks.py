import itertools
import random

from oncebooked.errors import BadMarks, BadMoments, BadNumber, BadWork
from oncebooked.marks import cheapest_marks, least_regret, least_times, least_worst, longest, run_time, shows_cheapest
from oncebooked.marks import shows_least, shows_regret, shows_worst, stretches, worst_moments, worst_time
from tests.test_shelves import Raising
from tests.values import is_climbing, is_int, near_values, odd_values, same

WORK = ((4, 3, 5, 2), (1, 1, 2), 3)
GREATEST = ((10 ** 6,) * 40, (10 ** 6,) * 39, 10 ** 6)


def drawn_work(draw, most=5, ticks=6):
    many = draw.randint(1, most)
    return (tuple(draw.randint(1, ticks) for _ in range(many)), tuple(draw.randint(0, ticks) for _ in range(many - 1)),
            draw.randint(0, 4))


def all_marks(work):
    """All marks of a work."""
    places = range(len(work[0]) - 1)
    return [marks for many in range(len(work[0])) for marks in itertools.combinations(places, many)]


def lengths(work, marks):
    found, length = [], 0
    for part, ticks in enumerate(work[0]):
        length += ticks
        if part in marks:
            found.append(length + work[1][part])
            length = 0
    return tuple(found) + (length,)


def ticked(work, marks, moments):
    """How many ticks the run takes, tick by tick."""
    left = list(lengths(work, marks))
    beginning, done, ticks = 0, 0, 0
    while True:
        while left and done == left[0] and beginning == 0:
            left.pop(0)
            done = 0
        if not left:
            return ticks
        if ticks in moments:
            beginning, done = work[2], 0
        if beginning > 0:
            beginning -= 1
        else:
            done += 1
        ticks += 1


def worst(work, marks, cuts):
    """The worst time by going through all moments that can cut anything."""
    # Behind each cut at most so many ticks go by until the next one can cut as well, or the run is over.
    end = sum(lengths(work, marks)) + cuts * (work[2] + max(lengths(work, marks)))
    return max(ticked(work, marks, moments) for many in range(cuts + 1)
               for moments in itertools.combinations(range(end), many))


def formula(work, marks, cuts):
    told = lengths(work, marks)
    return sum(told) + cuts * (work[2] + max(told) - 1)


def cost(work, marks):
    return sum(work[1][mark] for mark in marks)


def regret(work, marks, cuts):
    """The regret as section 10 tells it, looked for at each number of cuts."""
    return max(formula(work, marks, many) - min(formula(work, other, many) for other in all_marks(work))
               for many in range(cuts + 1))


def are_marks(work, value):
    return is_climbing(value, 0, len(work[0]) - 2)


def no_works():
    return odd_values() + [
        list(WORK), WORK[:2], WORK + (1,), ([4, 3, 5, 2],) + WORK[1:], (WORK[0], [1, 1, 2], 3), ((), (), 3), (WORK[0], (1, 1), 3),
        (WORK[0], (1, 1, 2, 2), 3), ((4, 0, 5, 2), (1, 1, 2), 3), ((4, -3, 5, 2), (1, 1, 2), 3), ((4, 10 ** 6 + 1), (1,), 3),
        ((4, True), (1,), 3), ((4, '3'), (1,), 3), ((4, None), (1,), 3), ((4, 3), (-1,), 3), ((4, 3), (10 ** 6 + 1,), 3),
        ((4, 3), (True,), 3), ((4, 3), (None,), 3), ((4, 3), (1,), -1), ((4, 3), (1,), 10 ** 6 + 1), ((4, 3), (1,), False),
        ((4, 3), (1,), None), ((4, 3), (1,), '3'), ((1,) * 41, (1,) * 40, 0), (4, (), 0)]


def no_marks():
    """Values that are no marks of WORK."""
    return [value for value in odd_values() if not same(value, ())] + [
        (3,), (-1,), (0, 0), (1, 0), (0, 1, 2, 3), [0], (True,), (0, True), ('0',), (0, None), (0, 1, 1)]


def no_numbers(low, high):
    return [value for value in odd_values() + [low - 1, high + 1, str(low), (low,)] if not is_int(value, low, high)]


class OfRuns(Raising):

    def test_ordinary(self):
        self.assertTrue(same([stretches(WORK, (1,)), stretches(WORK, (0, 1, 2)), longest(WORK, ())], [(8, 7), (5, 4, 7, 2), 14]))
        self.assertTrue(same(stretches(((5,), (), 0), ()), (5,)))
        self.assertEqual(run_time(WORK, (1,), (0, 1, 2)), 2 + 3 + 8 + 7)
        self.assertEqual(run_time(WORK, (1,), (14,)), 14 + 3 + 7)
        self.assertEqual(run_time(WORK, (1,), (15,)), 15)
        self.assertEqual(run_time(((1,), (), 0), (), (0,)), 1)
        self.assertEqual(run_time(((1,), (), 0), (), (0, 1, 2)), 1)
        self.assertEqual(run_time(((1,), (), 1), (), (0, 1, 2)), 4)

    def test_beside_a_run_tick_by_tick(self):
        draw = random.Random(51)
        for _ in range(1500):
            work = drawn_work(draw)
            marks = draw.choice(all_marks(work))
            self.assertEqual(stretches(work, marks), lengths(work, marks))
            self.assertEqual(longest(work, marks), max(lengths(work, marks)))
            moments = tuple(sorted(draw.sample(range(40), draw.randint(0, 7))))
            self.assertEqual(run_time(work, marks, moments), ticked(work, marks, moments), (work, marks, moments))

    def test_great(self):
        every = tuple(range(39))
        self.assertEqual(run_time(GREATEST, every, ()), 79 * 10 ** 6)
        self.assertEqual(run_time(GREATEST, (), tuple(range(10 ** 12 - 99, 10 ** 12 + 1))), 40 * 10 ** 6)
        at = tuple((at + 1) * 41 * 10 ** 6 - 10 ** 6 - 1 for at in range(100))
        self.assertEqual(run_time(GREATEST, (), at[:1]), 40 * 10 ** 6 - 1 + 41 * 10 ** 6)
        self.assertEqual(worst_time(GREATEST, (), 100), 40 * 10 ** 6 + 100 * (41 * 10 ** 6 - 1))
        self.assertTrue(shows_worst(GREATEST, (), 100, worst_moments(GREATEST, (), 100)))
        self.assertEqual(len(least_times(GREATEST, 100)), 101)
        self.assertTrue(shows_regret(GREATEST, 100, least_regret(GREATEST, 100)))
        self.assertTrue(shows_least(GREATEST, 100, least_worst(GREATEST, 100)))
        self.assertIsNone(cheapest_marks(GREATEST, 10 ** 6))
        self.assertEqual(cheapest_marks(GREATEST, 10 ** 9), (0, ()))

    def test_errors_in_their_sequence(self):
        for value in no_works():
            self.refused(BadWork, value, stretches, value, None)
            self.refused(BadWork, value, longest, value, None)
            self.refused(BadWork, value, run_time, value, None, None)
            self.refused(BadWork, value, worst_time, value, None, None)
            self.refused(BadWork, value, worst_moments, value, None, None)
            self.refused(BadWork, value, shows_worst, value, None, None, None)
            self.refused(BadWork, value, cheapest_marks, value, None)
            self.refused(BadWork, value, shows_cheapest, value, None, None)
            for function in (least_worst, least_times, least_regret):
                self.refused(BadWork, value, function, value, None)
            for function in (shows_least, shows_regret):
                self.refused(BadWork, value, function, value, None, None)
        for value in no_marks():
            self.refused(BadMarks, value, stretches, WORK, value)
            self.refused(BadMarks, value, longest, WORK, value)
            self.refused(BadMarks, value, run_time, WORK, value, None)
            self.refused(BadMarks, value, worst_time, WORK, value, None)
            self.refused(BadMarks, value, worst_moments, WORK, value, None)
            self.refused(BadMarks, value, shows_worst, WORK, value, None, None)
        for value in [value for value in odd_values() if not same(value, ()) and not same(value, (1, 2, 3))] + [
                [1], (-1,), (10 ** 12 + 1,), (1, 1), (2, 1), (True,), ('1',), (1, None), tuple(range(101))]:
            self.refused(BadMoments, value, run_time, WORK, (), value)
        self.assertEqual(run_time(WORK, (), tuple(range(100))), 99 + 3 + 14)

    def test_bad_numbers(self):
        for value in no_numbers(0, 100):
            self.refused(BadNumber, value, worst_time, WORK, (), value)
            self.refused(BadNumber, value, worst_moments, WORK, (), value)
            self.refused(BadNumber, value, shows_worst, WORK, (), value, ())
            for function in (least_worst, least_times, least_regret):
                self.refused(BadNumber, value, function, WORK, value)
            for function in (shows_least, shows_regret):
                self.refused(BadNumber, value, function, WORK, value, None)
        for value in no_numbers(1, 10 ** 9):
            self.refused(BadNumber, value, cheapest_marks, WORK, value)
            self.refused(BadNumber, value, shows_cheapest, WORK, value, None)


class OfTheWorst(Raising):

    def test_beside_all_moments(self):
        draw = random.Random(52)
        for _ in range(120):
            work = drawn_work(draw, 3, 3)
            marks = draw.choice(all_marks(work))
            cuts = draw.randint(0, 2)
            time = worst(work, marks, cuts)
            self.assertEqual(worst_time(work, marks, cuts), time, (work, marks, cuts))
            self.assertEqual(time, formula(work, marks, cuts))
            for many in range(cuts + 2):
                for moments in itertools.combinations(range(9), many):
                    is_right = many <= cuts and ticked(work, marks, moments) == time
                    self.assertIs(shows_worst(work, marks, cuts, moments), is_right)

    def test_shows_worst_of_what_is_told(self):
        draw = random.Random(53)
        for _ in range(150):
            work = drawn_work(draw)
            marks = draw.choice(all_marks(work))
            cuts = draw.choice((0, 1, 2, 3, 7))
            told = worst_moments(work, marks, cuts)
            self.assertTrue(is_climbing(told, 0, 10 ** 12) and len(told) <= cuts)
            self.assertEqual(ticked(work, marks, told), formula(work, marks, cuts))
            for value in [told] + near_values(told) + odd_values():
                is_right = (is_climbing(value, 0, 10 ** 12) and len(value) <= cuts
                            and ticked(work, marks, value) == formula(work, marks, cuts))
                self.assertIs(shows_worst(work, marks, cuts, value), is_right, (work, marks, cuts, value))

    def test_moments_that_cut_nothing_are_counted(self):
        self.assertTrue(shows_worst(WORK, (1,), 1, (7,)))
        self.assertTrue(shows_worst(WORK, (1,), 2, (7, 17)))
        self.assertFalse(shows_worst(WORK, (1,), 1, (7, 10 ** 12)))
        self.assertFalse(shows_worst(WORK, (1,), 2, (7, 10 ** 12)))
        light = ((1,), (), 0)
        self.assertTrue(shows_worst(light, (), 1, ()) and shows_worst(light, (), 1, (10 ** 12,)))
        self.assertFalse(shows_worst(light, (), 1, (10 ** 12 + 1,)) or shows_worst(light, (), 1, (5, 6)))
        self.assertTrue(same(worst_moments(light, (), 5), ()))


class OfMarks(Raising):

    def test_cheapest_beside_all_marks(self):
        draw = random.Random(54)
        for _ in range(150):
            work = drawn_work(draw)
            for most in range(1, 14):
                right = [marks for marks in all_marks(work) if max(lengths(work, marks)) <= most]
                told = cheapest_marks(work, most)
                least = min([cost(work, marks) for marks in right], default=None)
                if least is None:
                    self.assertIsNone(told)
                else:
                    self.assertTrue(is_int(told[0], least, least) and told[1] in right)
                    self.assertEqual(cost(work, told[1]), least)
                for marks in all_marks(work):
                    is_right = marks in right and cost(work, marks) == least
                    self.assertIs(shows_cheapest(work, most, (cost(work, marks), marks)), is_right)
                for value in [told] + near_values(told) + [None]:
                    is_right = least is None and value is None
                    if least is not None and type(value) is tuple and len(value) == 2 and are_marks(work, value[1]):
                        is_right = is_int(value[0], least, least) and value[1] in right and cost(work, value[1]) == least
                    self.assertIs(shows_cheapest(work, most, value), is_right, (work, most, value))

    def looked_at(self, shows, work, cuts, told, amount_of):
        """Looks at shows_least, shows_regret: amount_of is by what marks are judged."""
        least = min(amount_of(marks) for marks in all_marks(work))
        self.assertTrue(is_int(told[0], least, least) and are_marks(work, told[1]), (work, cuts, told))
        self.assertEqual(amount_of(told[1]), least)
        for marks in all_marks(work):
            self.assertIs(shows(work, cuts, (amount_of(marks), marks)), amount_of(marks) == least)
            self.assertIs(shows(work, cuts, (least, marks)), amount_of(marks) == least)
        for value in [told] + near_values(told) + odd_values():
            is_right = type(value) is tuple and len(value) == 2 and is_int(value[0], least, least)
            is_right = is_right and are_marks(work, value[1]) and amount_of(value[1]) == least
            self.assertIs(shows(work, cuts, value), is_right, (work, cuts, value))

    def test_least_beside_all_marks(self):
        draw = random.Random(55)
        for _ in range(60):
            work = drawn_work(draw, 5, draw.choice((3, 6, 20)))
            cuts = draw.choice((0, 1, 2, 5, 100))
            self.looked_at(shows_least, work, cuts, least_worst(work, cuts), lambda marks: formula(work, marks, cuts))
            self.looked_at(shows_regret, work, cuts, least_regret(work, cuts), lambda marks: regret(work, marks, cuts))

    def test_least_times_beside_all_marks(self):
        draw = random.Random(56)
        for _ in range(60):
            work = drawn_work(draw, 6, draw.choice((3, 6, 20)))
            cuts = draw.choice((0, 1, 2, 5, 100))
            times = least_times(work, cuts)
            self.assertEqual(times, tuple(min(formula(work, marks, many) for marks in all_marks(work))
                                          for many in range(cuts + 1)))
            rises = [after - time for time, after in zip(times, times[1:])]
            self.assertEqual(rises, sorted(rises, reverse=True))
            self.assertGreaterEqual(min(rises, default=0), 0)

    def test_of_works_of_one_part(self):
        work = ((5,), (), 2)
        self.assertTrue(same(least_worst(work, 3), (23, ())))
        self.assertTrue(same(least_regret(work, 3), (0, ())))
        self.assertTrue(same(least_times(work, 2), (5, 11, 17)))
        self.assertTrue(same([cheapest_marks(work, 5), cheapest_marks(work, 4)], [(0, ()), None]))

    def test_forty_parts(self):
        draw = random.Random(57)
        for ticks, costs in ((10 ** 6, 10 ** 6), (10 ** 6, 1000), (10, 0)):
            work = (tuple(draw.randint(1, ticks) for _ in range(40)), tuple(draw.randint(0, costs) for _ in range(39)), 17)
            times = least_times(work, 100)
            for cuts in (0, 1, 50, 100):
                told = least_worst(work, cuts)
                self.assertEqual((told[0], worst_time(work, told[1], cuts)), (times[cuts], times[cuts]))
                self.assertTrue(shows_least(work, cuts, told))
            told = least_regret(work, 100)
            regrets = [worst_time(work, told[1], cuts) - times[cuts] for cuts in range(101)]
            self.assertEqual(max(regrets), told[0])
            self.assertTrue(shows_regret(work, 100, told))
