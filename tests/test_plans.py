import itertools
import random

from oncebooked.errors import BadNumber, BadStanding, BadWay, NotOnce, TooMany
from oncebooked.plans import begun_with, good_way, is_standing, is_way, judged_way, least_fences, left_behind
from oncebooked.plans import needless_fences, shows_least_fences, shows_wrong, steps_run
from tests.test_shelves import Raising
from tests.values import is_climbing, is_int, near_values, odd_values, same

PLAIN = (('skip', 7), ('read', 'A', 'x'), ('write', 'A', 'x', -1), ('read', 'B', 'y'), ('write', 'B', 'y', 1), ('note',),
         ('fence',))
ONCE = (('skip', 7), ('read', 'A', 'x'), ('write', 'S', 'x', -1), ('read', 'B', 'y'), ('write', 'T', 'y', 1), ('fence',),
        ('note',), ('fence',), ('read', 'S', 'x'), ('write', 'A', 'x', 0), ('read', 'T', 'y'), ('write', 'B', 'y', 0), ('fence',))
ZERO = (0, 0, 0, 0, 0)
FENCE, WAIT = ('fence',), ('wait',)
FIRSTS = [(a, b, 0, 0, 0) for a in (-1, 0, 1) for b in (-1, 0, 1)]


def run(way, standing):
    """For each number of steps of a run: (step that comes next, values that each cell may keep)."""
    have, may, names, at = list(standing), [{value} for value in standing], {'x': 0, 'y': 0}, 0
    found = [(0, [set(values) for values in may])]
    while at < len(way):
        word, *parts = way[at]
        at += 1
        if word == 'skip' and have[4] == 1:
            at = parts[0]
        if word == 'read':
            names[parts[1]] = have['ABST'.index(parts[0])]
        if word in ('write', 'note'):
            cell = 4 if word == 'note' else 'ABST'.index(parts[0])
            value = 1 if word == 'note' else sorted((-3, names[parts[1]] + parts[2], 3))[1]
            have[cell] = value
            may[cell].add(value)
        if word == 'fence':
            may = [{value} for value in have]
        found.append((at, [set(values) for values in may]))
    return found


def lefts(way, standing, steps):
    """All standings that are left behind so many steps, in a set."""
    return set(itertools.product(*run(way, standing)[steps][1]))


class Judge:
    """All runs of a way, looked through for each standing once."""

    def __init__(self, way):
        self.way = way
        self.left = {}

    def behind(self, standing):
        """(all standings left by any run, those left by one that ended)."""
        if standing not in self.left:
            told = [set(itertools.product(*may)) for _, may in run(self.way, standing)]
            self.left[standing] = (set().union(*told), told[-1])
        return self.left[standing]

    def begun(self, first):
        """A list of sets: the standings with which the run with this number can begin, until no new ones come."""
        rows, all_of_them = [{first}], {first}
        while rows[-1]:
            news = set().union(*[self.behind(standing)[0] for standing in rows[-1]]) - all_of_them
            rows.append(news)
            all_of_them |= news
        return rows

    def fewest(self):
        """The fewest runs of a story by which the way is wrong; None if it moves once."""
        found = []
        for first in FIRSTS:
            right = (first[0] - 1, first[1] + 1)
            for number, row in enumerate(self.begun(first), 1):
                if any(end[:2] != right for standing in row for end in self.behind(standing)[1]):
                    found.append(number)
                    break
        return min(found, default=None)


def is_told(way, value, fewest):
    """Whether value is ("wrong", first, story) as section 11 tells it."""
    if fewest is None or type(value) is not tuple or len(value) != 3 or value[0] != 'wrong':
        return False
    first, story = value[1:]
    if not any(same(first, one) for one in FIRSTS) or type(story) is not tuple or len(story) != fewest:
        return False
    standing, ended = first, False
    for pair in story:
        if type(pair) is not tuple or len(pair) != 2:
            return False
        told = run(way, standing)
        if not is_int(pair[0], 0, len(told) - 1) or type(pair[1]) is not tuple or not all(is_int(part) for part in pair[1]):
            return False
        if pair[1] not in lefts(way, standing, pair[0]):
            return False
        standing, ended = pair[1], pair[0] == len(told) - 1
    return ended and standing[:2] != (first[0] - 1, first[1] + 1)


def but(way, fences):
    """The way with waits for these fences."""
    return tuple(WAIT if at in fences else step for at, step in enumerate(way))


def is_once(way):
    return Judge(way).fewest() is None


def drawn_step(draw, at, many):
    word = draw.choice(('read', 'read', 'write', 'write', 'write', 'note', 'skip', 'fence', 'wait'))
    if word == 'read':
        return (word, draw.choice('ABST'), draw.choice('xy'))
    if word == 'write':
        return (word, draw.choice('ABST'), draw.choice('xy'), draw.randint(-1, 1))
    return (word, draw.randint(at + 1, many)) if word == 'skip' else (word,)


def drawn_way(draw, most=7):
    many = draw.randint(0, most)
    return tuple(drawn_step(draw, at, many) for at in range(many))


def with_step(way, at, step):
    """The way with a step more ahead of the one with this number, skips still leading where they led."""
    moved = tuple(('skip', old[1] + 1) if old[0] == 'skip' and old[1] > at else old for old in way)
    return moved[:at] + (step,) + moved[at:]


def near_way(draw, changes=2):
    """A way that moves once, or one that is near to such a way."""
    way = ONCE
    for _ in range(draw.randint(0, changes)):
        at = draw.randrange(len(way))
        kind = draw.choice(('wait', 'more', 'swap', 'other', 'fence'))
        if kind == 'wait' and way[at][0] != 'skip':
            way = way[:at] + (WAIT,) + way[at + 1:]
        if kind in ('more', 'fence'):
            way = with_step(way, at, FENCE if kind == 'fence' else draw.choice((FENCE, WAIT, ('read', 'S', 'x'), ('note',))))
        if kind == 'swap' and 0 < at < len(way) - 1:
            way = way[:at] + (way[at + 1], way[at]) + way[at + 2:]
        if kind == 'other' and at:
            way = way[:at] + (drawn_step(draw, at, len(way)),) + way[at + 1:]
    if len(way) > 20 or any(step[0] == 'skip' and step[1] <= at for at, step in enumerate(way)):
        return near_way(draw, changes)
    return way


def no_ways():
    return [value for value in odd_values() if not same(value, ())] + [
        [FENCE], (['fence'],), ('fence',), (('fence', 1),), (('Fence',),), (('wait', 0),), (('note', 1),), (('read', 'A'),),
        (('read', 'note', 'x'),), (('read', 'C', 'x'),), (('read', 'A', 'z'),), (('read', 'a', 'x'),), (('read', 'AB', 'x'),),
        (('read', '', 'x'),), (('read', 'A', ''),), (('read', ['A'], 'x'),), (('write', 'A', 'x'),), (('write', 'A', 'x', 2),),
        (('write', 'A', 'x', -2),), (('write', 'A', 'x', True),), (('write', 'A', 'x', None),), (('write', 'note', 'x', 0),),
        (('write', 'A', 'xy', 0),), (('skip',),), (('skip', 0),), (('skip', 2),), (WAIT, ('skip', 1)), (('skip', True),),
        (('skip', '1'),), (('skip', None), WAIT), (('jump', 1),), (('jump', 'A', 'x'),), (('Write', 'A', 'x', 0),), (('read', 'A', 'x', 0),), (WAIT,) * 21, (WAIT, None), ((),)]


def no_standings():
    return odd_values() + [list(ZERO), ZERO[:4], ZERO + (0,), (4, 0, 0, 0, 0), (0, -4, 0, 0, 0), (0, 0, 4, 0, 0), (0, 0, 0, -4, 0),
                           (0, 0, 0, 0, 2), (0, 0, 0, 0, -1), (0, 0, 0, 0, False), (True, 0, 0, 0, 0), (0, '0', 0, 0, 0),
                           (0, 0, None, 0, 0)]


class OfForms(Raising):

    def test_ways(self):
        for way in ((), PLAIN, ONCE, (WAIT,) * 20, (('skip', 1),), (('skip', 2), WAIT), (('note',),), (('write', 'T', 'y', 0),)):
            self.assertIs(is_way(way), True)
        for value in no_ways():
            self.assertIs(is_way(value), False, value)

    def test_standings(self):
        for value in (ZERO, (-3, 3, -3, 3, 1), (3, -3, 3, -3, 0)):
            self.assertIs(is_standing(value), True)
        for value in no_standings():
            self.assertIs(is_standing(value), False, value)

    def test_errors_in_their_sequence(self):
        for value in no_ways():
            self.refused(BadWay, value, steps_run, value, None)
            self.refused(BadWay, value, left_behind, value, None, None)
            self.refused(BadWay, value, begun_with, value, None)
            self.refused(BadWay, value, shows_wrong, value, None)
            self.refused(BadWay, value, shows_least_fences, value, None)
            for function in (judged_way, needless_fences, least_fences):
                self.refused(BadWay, value, function, value)
        for value in no_standings():
            self.refused(BadStanding, value, steps_run, PLAIN, value)
            self.refused(BadStanding, value, left_behind, PLAIN, value, None)
            self.refused(BadStanding, value, begun_with, PLAIN, value)
        for value in ((2, 0, 0, 0, 0), (-2, 0, 0, 0, 0), (0, -2, 0, 0, 0), (0, 2, 0, 0, 0), (0, 0, 1, 0, 0), (0, 0, 0, -1, 0), (0, 0, 0, 0, 1)):
            self.refused(BadStanding, value, begun_with, PLAIN, value)
        for value in odd_values() + [8, -1]:
            if not is_int(value, 0, 7):
                self.refused(BadNumber, value, left_behind, PLAIN, ZERO, value)
        self.refused(BadNumber, 2, left_behind, PLAIN, (0, 0, 0, 0, 1), 2)
        self.refused(BadNumber, 1, left_behind, (), ZERO, 1)


class OfRuns(Raising):

    def test_steps_and_what_is_left(self):
        draw = random.Random(61)
        for _ in range(300):
            way = draw.choice((drawn_way(draw), near_way(draw), drawn_way(draw, 20)))
            standing = tuple(draw.randint(-3, 3) for _ in range(4)) + (draw.randint(0, 1),)
            told = run(way, standing)
            self.assertEqual(steps_run(way, standing), tuple(at for at, _ in told[:-1]))
            for steps in range(len(told)):
                self.assertEqual(left_behind(way, standing, steps), tuple(sorted(lefts(way, standing, steps))))

    def test_values_stay_within(self):
        way = (('read', 'A', 'x'), ('write', 'B', 'x', 1), FENCE, ('write', 'S', 'y', 1), ('write', 'T', 'y', -1), FENCE)
        self.assertEqual(left_behind(way, (3, 0, 0, 0, 0), 6), ((3, 3, 1, -1, 0),))
        low = (('read', 'A', 'x'), ('write', 'A', 'x', -1), FENCE)
        self.assertEqual(left_behind(low, (-3, 0, 0, 0, 0), 3), ((-3, 0, 0, 0, 0),))

    def test_any_one_of_the_writes(self):
        way = (('write', 'A', 'x', 1), ('write', 'A', 'x', -1), ('note',), ('write', 'A', 'x', 0))
        self.assertEqual(left_behind(way, (3, 0, 0, 0, 0), 4), tuple((a, 0, 0, 0, n) for a in (-1, 0, 1, 3) for n in (0, 1)))

    def test_begun_with(self):
        draw = random.Random(62)
        for _ in range(150):
            way = draw.choice((drawn_way(draw), near_way(draw)))
            first = draw.choice(FIRSTS)
            told = begun_with(way, first)
            self.assertEqual(told, tuple(sorted(set().union(*Judge(way).begun(first)))))
        self.assertEqual(begun_with((), (1, -1, 0, 0, 0)), ((1, -1, 0, 0, 0),))
        counting = (('read', 'S', 'x'), ('write', 'S', 'x', 1), FENCE)
        self.assertEqual(begun_with(counting, ZERO), tuple((0, 0, s, 0, 0) for s in range(4)))
        # All standings of S and T are come to, down to the least ones.
        down = (('read', 'S', 'x'), ('write', 'S', 'x', -1), ('read', 'T', 'y'), ('write', 'T', 'y', -1), FENCE)
        self.assertEqual(begun_with(down, ZERO), tuple((0, 0, s, t, 0) for s in range(-3, 1) for t in range(-3, 1)))


class OfJudging(Raising):

    def look_at(self, way, draw):
        fewest = Judge(way).fewest()
        told = judged_way(way)
        if fewest is None:
            self.assertTrue(same(told, ('once',)))
            self.assertIs(shows_wrong(way, told), False)
            self.assertIs(shows_wrong(way, ('wrong', ZERO, ((len(way), ZERO),))), False)
            return
        self.assertTrue(is_told(way, told, fewest), (way, told, fewest))
        values = near_values(told)
        for value in [told] + draw.sample(values, 40) + [('once',), ('wrong',) + told[1:] + (1,)]:
            self.assertIs(shows_wrong(way, value), is_told(way, value, fewest), (way, value))

    def test_beside_all_runs(self):
        draw = random.Random(63)
        for _ in range(120):
            self.look_at(drawn_way(draw), draw)
        for _ in range(80):
            self.look_at(near_way(draw), draw)

    def test_some_move_once(self):
        draw = random.Random(64)
        found = [judged_way(near_way(draw))[0] for _ in range(60)]
        self.assertGreater(found.count('once'), 10)
        self.assertGreater(found.count('wrong'), 10)
        self.assertTrue(is_way(good_way()) and is_once(good_way()))
        self.assertEqual(judged_way(good_way()), ('once',))

    def test_stories_of_several_runs(self):
        told = judged_way(PLAIN)
        self.assertTrue(is_told(PLAIN, told, 2))
        long = ('wrong', ZERO, ((0, ZERO), (6, (0, 0, 0, 0, 1)), (1, (0, 0, 0, 0, 1))))
        self.assertTrue(is_told(PLAIN, long, 3))
        self.assertIs(shows_wrong(PLAIN, long), False)
        for first in FIRSTS:
            lost = first[:4] + (1,)
            self.assertIs(shows_wrong(PLAIN, ('wrong', first, ((6, lost), (1, lost)))), True)
            self.assertIs(shows_wrong(PLAIN, ('wrong', first, ((6, lost), (0, lost)))), False)

    def test_a_story_of_three_runs(self):
        # Whoever finds the note writes A and B once more, and spoils T behind that: so only the next run ends wrong.
        written = (('read', 'S', 'x'), ('write', 'A', 'x', 0), ('read', 'T', 'y'), ('write', 'B', 'y', 0), FENCE)
        slow = (('skip', 14),) + ONCE[1:8] + written + (('skip', 20),) + written + (('write', 'T', 'y', 1),)
        self.assertEqual(Judge(slow).fewest(), 3)
        told = judged_way(slow)
        self.assertTrue(is_told(slow, told, 3), told)
        for value in [told] + near_values(told):
            self.assertIs(shows_wrong(slow, value), is_told(slow, value, 3))

    def moved(self, cells, down, up):
        """A way without any care: S, T come to be A, B so many below, above, and then A, B one less, one more."""
        steps = ()
        for (cell, store), changes in zip(cells, (down, up)):
            for at, change in enumerate(changes):
                steps += (('read', cell if at == 0 else store, 'x'), ('write', store, 'x', change))
            steps = steps[:-1] + (('write', cell, 'x', changes[-1]),)
        return steps + (FENCE,)

    def test_each_first_standing_is_looked_at(self):
        cells = (('A', 'S'), ('B', 'T'))
        plain = ((-1,), (1,))
        for changes, place, value in (((1, 1, 1, -1, -1, -1, -1), 0, 1), ((-1, -1, -1, 1, 1), 0, -1),
                                      ((1, 1, 1, -1, -1), 1, 1), ((-1, -1, -1, 1, 1, 1, 1), 1, -1)):
            way = self.moved(cells, *[changes if at == place else plain[at] for at in (0, 1)])
            # What is too great or too small is cut off: so one run is wrong for this first value alone.
            told = judged_way(way)
            self.assertEqual((Judge(way).fewest(), len(told[2]), told[1][place]), (1, 1, value))
            self.assertTrue(is_told(way, told, 1))
        for changes, place in (((1, 1, -1, -1, -1), 0), ((-1, -1, 1), 0), ((1, 1, -1), 1), ((-1, -1, 1, 1, 1), 1)):
            way = self.moved(cells, *[changes if at == place else plain[at] for at in (0, 1)])
            # Here it would be wrong for a value that no first standing has.
            told = judged_way(way)
            self.assertEqual((Judge(way).fewest(), len(told[2])), (2, 2))
            self.assertTrue(is_told(way, told, 2))

    def test_the_end_that_is_told_is_a_wrong_one(self):
        # Of the two standings that the last run can leave, the lesser one is right.
        way = (('read', 'B', 'y'), ('write', 'B', 'y', 1), FENCE, ('read', 'A', 'x'), ('write', 'A', 'x', -1))
        self.assertEqual(judged_way(way), ('wrong', (-1, -1, 0, 0, 0), ((5, (-1, 0, 0, 0, 0)),)))

    def test_shows_wrong_of_all_stories_of_one_run(self):
        way = (('read', 'A', 'x'), ('write', 'A', 'x', -1), FENCE, ('read', 'B', 'y'), ('write', 'B', 'y', 1))
        fewest = Judge(way).fewest()
        self.assertEqual(fewest, 1)
        for first in FIRSTS:
            for steps in range(6):
                for standing in itertools.product((-1, 0, 1, 2), (-1, 0, 1, 2), (0,), (0, 1), (0,)):
                    value = ('wrong', first, ((steps, standing),))
                    self.assertIs(shows_wrong(way, value), is_told(way, value, fewest))

    def test_values_of_any_kind(self):
        for way in (PLAIN, ONCE, ()):
            for value in odd_values():
                self.assertIs(shows_wrong(way, value), False)

    def test_without_a_fence_all_are_wrong(self):
        draw = random.Random(65)
        for _ in range(100):
            way = draw.choice((drawn_way(draw, 20), near_way(draw)))
            self.assertEqual(judged_way(but(way, range(20)))[0], 'wrong')
        self.assertEqual(judged_way(()), ('wrong', (-1, -1, 0, 0, 0), ((0, (-1, -1, 0, 0, 0)),)))

    def test_great_ways(self):
        draw = random.Random(66)
        writes = [('write', cell, 'x', change) for cell in 'ABST' for change in (-1, 0, 1)]
        reads = [('read', cell, 'x') for cell in 'ABST']
        for _ in range(5):
            way = tuple(draw.choice(writes + reads + [('note',)]) for _ in range(20))
            told = judged_way(way)
            self.assertEqual(told[0], 'wrong')
            self.assertTrue(shows_wrong(way, told))
            for first in FIRSTS:
                self.assertIn(first, begun_with(way, first))
        everything = tuple(draw.choice(writes + reads) for _ in range(19)) + (('note',),)
        self.assertEqual(len(left_behind(everything, ZERO, 20)) % 2, 0)


class OfFences(Raising):

    def ways(self):
        """Ways that move once, with more fences than they need."""
        draw = random.Random(67)
        found = [ONCE, with_step(ONCE, 13, FENCE), with_step(with_step(ONCE, 6, FENCE), 9, FENCE)]
        while len(found) < 14:
            way = ONCE
            for _ in range(draw.randint(1, 4)):
                way = with_step(way, draw.randrange(len(way) + 1), draw.choice((FENCE, FENCE, WAIT, ('read', 'B', 'x'))))
            if is_once(way):
                found.append(way)
        return found

    def test_beside_all_lots_of_fences(self):
        for way in self.ways():
            fences = [at for at, step in enumerate(way) if step == FENCE]
            self.assertEqual(needless_fences(way), tuple(at for at in fences if is_once(but(way, (at,)))))
            lots = [lot for many in range(len(fences) + 1) for lot in itertools.combinations(fences, many)]
            right = [lot for lot in lots if is_once(but(way, [at for at in fences if at not in lot]))]
            fewest = min(len(lot) for lot in right)
            told = least_fences(way)
            self.assertTrue(is_climbing(told, 0, 20) and told in right and len(told) == fewest)
            for value in lots + near_values(told) + odd_values():
                is_right = is_climbing(value, 0, 20) and value in right and len(value) == fewest
                self.assertIs(shows_least_fences(way, value), is_right, (way, value))

    def test_more_fences_never_hurt(self):
        for way in self.ways():
            for at, step in enumerate(way):
                if step == WAIT:
                    self.assertEqual(judged_way(way[:at] + (FENCE,) + way[at + 1:]), ('once',))

    def test_not_once_comes_ahead_of_too_many(self):
        for way in (PLAIN, (), (FENCE,) * 9, (FENCE,) * 20):
            told = judged_way(way)
            self.refused(NotOnce, told, needless_fences, way)
            self.refused(NotOnce, told, least_fences, way)
            self.refused(NotOnce, told, shows_least_fences, way, None)

    def test_too_many(self):
        way = ONCE + (FENCE,) * 6
        self.refused(TooMany, 8, least_fences, way)
        self.refused(TooMany, 8, shows_least_fences, way, None)
        self.assertEqual(needless_fences(way), tuple(range(12, 19)))
        self.assertEqual(len(least_fences(ONCE + (FENCE,) * 5)), 3)
        front = ONCE
        for _ in range(5):
            front = with_step(front, 5, FENCE)
        self.assertEqual((len(least_fences(front)), front.count(FENCE)), (3, 8))
