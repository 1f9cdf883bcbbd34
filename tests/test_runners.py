import itertools
import random

from oncebooked.errors import BadDone, BadNumber, BadSteps, TooMany
from oncebooked.runners import can_begin, least_time, longest_row, shows_least_time, shows_longest_row, Steps
from tests.test_shelves import Raising
from tests.values import is_int, near_values, odd_values, same

TEXT = 'step load 2\nstep post 3 load\nstep rate 4\nstep print 1 post rate'


def drawn_web(draw, most=5, ticks=3):
    names = draw.sample('abcdefghij', draw.randint(1, most))
    rows = [f'step {name} {draw.randint(1, ticks)} ' + ' '.join(draw.sample(names[:at], draw.randint(0, min(at, 2))))
            for at, name in enumerate(names)]
    return '\n'.join(row.rstrip() for row in rows)


def rows_of(text):
    """A dict from names to (ticks, befores), read word by word."""
    return {name: (int(ticks), befores) for _, name, ticks, *befores in [line.split(' ') for line in text.split('\n')]}


def is_row_of(web, value, ticks):
    if type(value) is not tuple or len(value) != 2 or not is_int(value[0], ticks, ticks) or type(value[1]) is not tuple:
        return False
    if not all(type(name) is str and name in web for name in value[1]):
        return False
    return sum(web[name][0] for name in value[1]) == ticks and all(one in web[other][1]
                                                                   for one, other in zip(value[1], value[1][1:]))


def rows_in(web):
    """All rows of steps, each one having the one ahead among its befores."""
    rows = [(name,) for name in web]
    for row in rows:
        rows += [row + (name,) for name in web if row[-1] in web[name][1]]
    return rows


def is_done_by(web, hands, plan):
    """Whether the plan can be done, tick by tick."""
    if type(plan) is not tuple or len(plan) != len(web) or not all(is_int(begin, 0) for begin in plan):
        return False
    spans = {name: (begin, begin + web[name][0]) for name, begin in zip(web, plan)}
    if any(spans[before][1] > spans[name][0] for name in web for before in web[name][1]):
        return False
    last = max(end for _, end in spans.values())
    return all(sum(begin <= tick < end for begin, end in spans.values()) <= hands for tick in range(min(last, 200)))


def end_of(web, plan):
    return max(begin + web[name][0] for name, begin in zip(web, plan))


class OfSteps(Raising):

    def test_ordinary(self):
        steps = Steps(TEXT)
        self.assertTrue(same((steps.text, steps.rows, len(steps)), (TEXT, (
            ('load', 2, ()), ('post', 3, ('load',)), ('rate', 4, ()), ('print', 1, ('post', 'rate'))), 4)))
        self.assertEqual(Steps('step b 1\nstep a 1000\nstep c 1 a b').rows[2], ('c', 1, ('a', 'b')))

    def test_thirty_lines(self):
        names = [one + other for one in 'abcdef' for other in 'abcdef']
        lines = [f'step {name} 1000 ' + ' '.join(names[:at]) for at, name in enumerate(names)]
        lines = [line.rstrip() for line in lines]
        steps = Steps('\n'.join(lines[:30]))
        self.assertEqual((len(steps), longest_row(steps)), (30, (30000, tuple(names[:30]))))
        self.refused(BadSteps, 31, Steps, '\n'.join(lines[:31]))
        self.refused(BadSteps, 31, Steps, '\n'.join(lines[:30] + ['x', 'y']))
        self.refused(BadSteps, 30, Steps, '\n'.join(lines[:29] + ['x', 'y']))

    def test_lines_that_cannot_stand(self):
        for value in odd_values():
            self.refused(BadSteps, 1 if isinstance(value, str) else 0, Steps, value)
        wrong = ('', 'step', 'step d', 'step d 0', 'step d 1001', 'step d -1', 'step d 01', 'step d x', 'step D 1', 'step d1 1',
                 'step abcdefghi 1', 'step a 1', 'step d 1 d', 'step d 1 e', 'step d 1 a a', 'step d 1 a b a', 'step d  1',
                 'step d 1 ', ' step d 1', 'Step d 1', 'step d 1 A', 'step d 1 a  b', 'step  1', 'step d 1.0', 'stop d 1')
        for line in wrong:
            self.refused(BadSteps, 3, Steps, '\n'.join(['step a 1', 'step b 2 a', line, 'x']))
            if line not in ('step a 1',):
                self.refused(BadSteps, 1, Steps, '\n'.join([line, 'x']))
        self.refused(BadSteps, 1, Steps, 'step b 1 a\nstep a 1')

    def test_can_begin(self):
        draw = random.Random(81)
        for _ in range(100):
            text = drawn_web(draw, 6)
            web, steps = rows_of(text), Steps(text)
            for many in range(len(web) + 1):
                for names in itertools.combinations(web, many):
                    done = tuple(sorted(names))
                    if all(before in done for name in done for before in web[name][1]):
                        free = tuple(name for name in web if name not in done and set(web[name][1]) <= set(done))
                        self.assertTrue(same(can_begin(steps, done), free))
                    else:
                        self.refused(BadDone, done, can_begin, steps, done)
                    if len(done) > 1:
                        self.refused(BadDone, done[::-1], can_begin, steps, done[::-1])

    def test_bad_done(self):
        steps = Steps(TEXT)
        for value in [value for value in odd_values() if not same(value, ())] + [
                ['load'], ('load', 'load'), ('rate', 'load'), ('post',), ('load', 'none'), ('load', None), (1,), (['load'],), 'load',
                ('print',), ('load', 'post', 'print')]:
            self.refused(BadDone, value, can_begin, steps, value)
        self.assertEqual(can_begin(steps, ('load', 'post', 'print', 'rate')), ())

    def test_longest_row_beside_all_rows(self):
        draw = random.Random(82)
        for _ in range(120):
            text = drawn_web(draw, 7)
            web, steps = rows_of(text), Steps(text)
            rows = rows_in(web)
            most = max(sum(web[name][0] for name in row) for row in rows)
            told = longest_row(steps)
            self.assertTrue(is_row_of(web, told, most))
            for row in rows:
                ticks = sum(web[name][0] for name in row)
                self.assertIs(shows_longest_row(steps, (ticks, row)), ticks == most)
            for value in near_values(told) + odd_values():
                self.assertIs(shows_longest_row(steps, value), is_row_of(web, value, most), (text, value))


class OfHands(Raising):

    def test_beside_all_plans(self):
        draw = random.Random(83)
        for _ in range(150):
            text = drawn_web(draw, 4, 4)
            web, steps, hands = rows_of(text), Steps(text), draw.choice((1, 2, 2, 2, 3))
            told = least_time(steps, hands)
            self.assertTrue(is_done_by(web, hands, told[1]))
            self.assertEqual(end_of(web, told[1]), told[0])
            # So some plan ends as soon as that: whether any one ends sooner shows among those that begin sooner.
            plans = [plan for plan in itertools.product(range(told[0]), repeat=len(web)) if is_done_by(web, hands, plan)]
            least = min(end_of(web, plan) for plan in plans)
            self.assertTrue(is_int(told[0], least, least), (text, hands))
            for plan in plans if len(plans) < 200 else draw.sample(plans, 200):
                self.assertIs(shows_least_time(steps, hands, (end_of(web, plan), plan)), end_of(web, plan) == least)
            for value in near_values(told) + odd_values():
                is_right = type(value) is tuple and len(value) == 2 and is_int(value[0], least, least)
                is_right = is_right and is_done_by(web, hands, value[1]) and end_of(web, value[1]) == least
                self.assertIs(shows_least_time(steps, hands, value), is_right, (text, hands, value))

    def test_a_step_that_has_to_wait_though_a_hand_is_free(self):
        # Whoever lets no hand wait begins b at once, and needs 7 ticks: b has to wait for the end of a and f.
        steps = Steps('step h 1\nstep a 3 h\nstep f 3 h\nstep i 2 a f\nstep b 2')
        self.assertEqual([least_time(steps, hands)[0] for hands in (1, 2, 3, 8)], [11, 6, 6, 6])
        self.assertTrue(shows_least_time(steps, 2, (6, (0, 1, 1, 4, 4))))
        for hands in range(1, 9):
            self.assertTrue(shows_least_time(steps, hands, least_time(steps, hands)))

    def test_the_sequence_of_the_lines_is_not_always_best(self):
        for text, hands, least in (('step a 1\nstep b 1\nstep c 2', 2, 2), ('step a 5\nstep b 5\nstep c 5\nstep d 9\nstep e 6', 2, 15),
                                   ('step a 1\nstep b 1\nstep c 1\nstep d 1\nstep e 1\nstep f 4', 2, 5),
                                   ('step a 4\nstep b 1\nstep c 3 b\nstep d 3\nstep e 1 d', 2, 6)):
            told = least_time(Steps(text), hands)
            self.assertEqual(told[0], least)
            self.assertTrue(shows_least_time(Steps(text), hands, told))

    def test_great_ticks(self):
        steps = Steps('\n'.join(f'step {name} {1000 - at}' for at, name in enumerate('abcdef')))
        self.assertEqual([least_time(steps, hands)[0] for hands in (1, 3, 5, 6)], [5985, 1995, 1991, 1000])
        self.assertFalse(shows_least_time(steps, 1, (5985, (0, 0, 0, 0, 0, 4990))))
        self.assertFalse(shows_least_time(steps, 6, (1000, (10 ** 39,) * 6)))

    def test_errors_in_their_sequence(self):
        seven = Steps('\n'.join(f'step {name} 1' for name in 'abcdefg'))
        for value in odd_values() + [0, 9, '1']:
            if not is_int(value, 1, 8):
                self.refused(BadNumber, value, least_time, seven, value)
                self.refused(BadNumber, value, shows_least_time, seven, value, None)
        self.refused(TooMany, 6, least_time, seven, 2)
        self.refused(TooMany, 6, shows_least_time, seven, 2, None)
