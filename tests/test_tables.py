import itertools
import random

from oncebooked.errors import BadEnds, BadNumber, BadRest, BadTable, TooMany
from oncebooked.interest import Accrual, paid_in, parts_of, stretches_of, value_at
from tests.test_interest import drawn_rest, no_rests, PARTS
from tests.test_shelves import Raising
from tests.values import odd_values, same

MOST = 10 ** 12
BALANCES = ((0, 1000), (100, 2000))
RATES = ((0, 50000),)
YEARS = ((0, 365), (50, 366))
THOUSAND = tuple((day, day % 2) for day in range(1000))


def no_tables():
    """Values that are no table of whatever kind."""
    return odd_values() + [
        [(0, 5)], ((0, 5), [1, 5]), ((1, 5),), ((0, 5), (0, 6)), ((0, 5), (7, 5), (7, 5)), ((0, 5), (7, 5), (6, 5)), ((0, 5), None),
        ((0, 5, 1),), ((0,),), ((0, 5), (100001, 5)), ((0, 5), (-1, 5)), ((-1, 5), (0, 5)), ((True, 5),), ((False, 5),),
        ((0, True),), ((0, '5'),), ((0, None),), ((0, (5,)),), (('0', 5),), ((0, 5), (None, 5)), (0, 5),
        THOUSAND + ((1000, 0),)]


def value_on(table, day):
    return [value for begin, value in table if begin <= day][-1]


def told_on(tables, day):
    return tuple(value_on(table, day) for table in tables)


def drawn_table(draw, values, last, most=6):
    days = sorted(draw.sample(range(1, last), draw.randint(0, most)))
    return tuple((day, draw.choice(values)) for day in [0] + days)


def drawn_tables(draw, last):
    balances = draw.choice(((-5, 0, 700, 90000), (1, 2), (10 ** 9, 10 ** 12 - 10 ** 10), (0, 10 ** 8)))
    return (drawn_table(draw, balances, last), drawn_table(draw, (0, 1, 50000, 10 ** 6), last),
            drawn_table(draw, (365, 366), last))


def fewest(tables, begin, end):
    """The stretches from begin to end, found day by day."""
    days = [told_on(tables, day) for day in range(begin, end)]
    return tuple((len(list(row)),) + told for told, row in itertools.groupby(days))


def paid_day_by_day(tables, ends, rest):
    """What is paid at each end, found day by day; None if some balance is too great."""
    accrual = Accrual(rest)
    more = due = 0
    found = []
    for day in range(max(ends, default=0)):
        balance, rate, year = told_on(tables, day)
        if balance + more > MOST:
            return None
        due += accrual.go_on((1, balance + more, rate, year))
        if day + 1 in ends:
            found.append((due, accrual.rest))
            more += due
            due = 0
    return tuple(found)


class OfValueAt(Raising):

    def test_ordinary(self):
        table = ((0, 5), (10, -7), (11, 0), (100000, 10 ** 30))
        for day, value in ((0, 5), (9, 5), (10, -7), (11, 0), (12, 0), (99999, 0), (100000, 10 ** 30)):
            self.assertTrue(same(value_at(table, day), value))
        self.assertEqual([value_at(THOUSAND, day) for day in (0, 1, 500, 501, 999, 100000)], [0, 1, 0, 1, 1, 1])
        self.assertEqual(value_at(((0, 3),), 100000), 3)

    def test_drawn(self):
        draw = random.Random(13)
        for _ in range(100):
            table = drawn_table(draw, range(9), 40)
            for day in range(45):
                self.assertEqual(value_at(table, day), value_on(table, day))

    def test_errors_in_their_sequence(self):
        for value in no_tables():
            self.refused(BadTable, value, value_at, value, None)
            self.refused(BadTable, value, value_at, value, 0)
        for value in odd_values() + [100001, -1, '0', (0,)]:
            if not same(value, 0) and not same(value, 1):
                self.refused(BadNumber, value, value_at, BALANCES, value)


class OfStretchesOf(Raising):

    def test_ordinary(self):
        self.assertTrue(same(stretches_of(BALANCES, RATES, YEARS, 0, 150),
                             ((50, 1000, 50000, 365), (50, 1000, 50000, 366), (50, 2000, 50000, 366))))
        self.assertEqual(stretches_of(BALANCES, RATES, YEARS, 49, 51), ((1, 1000, 50000, 365), (1, 1000, 50000, 366)))
        self.assertEqual(stretches_of(BALANCES, RATES, YEARS, 50, 100), ((50, 1000, 50000, 366),))
        self.assertEqual(stretches_of(BALANCES, RATES, YEARS, 99, 100), ((1, 1000, 50000, 366),))
        for day in (0, 50, 99, 100, 100000):
            self.assertEqual(stretches_of(BALANCES, RATES, YEARS, day, day), ())
        self.assertEqual(stretches_of(((0, 7),), RATES, ((0, 365),), 0, 100000), ((100000, 7, 50000, 365),))

    def test_days_alike_are_one_stretch(self):
        balances = ((0, 5), (10, 5), (20, 6), (30, 5), (31, 5))
        self.assertEqual(stretches_of(balances, ((0, 1), (15, 1)), ((0, 365), (25, 365)), 0, 50),
                         ((20, 5, 1, 365), (10, 6, 1, 365), (20, 5, 1, 365)))

    def test_drawn(self):
        draw = random.Random(14)
        for _ in range(300):
            tables = drawn_tables(draw, 60)
            begin = draw.randint(0, 70)
            end = begin + draw.randint(0, 20)
            self.assertEqual(stretches_of(*tables, begin, end), fewest(tables, begin, end))

    def test_too_many(self):
        self.assertEqual(len(stretches_of(THOUSAND, RATES, ((0, 365),), 0, 100000)), 1000)
        self.assertEqual(len(stretches_of(THOUSAND, RATES, ((0, 365), (5000, 366)), 1, 100000)), 1000)
        self.refused(TooMany, 1001, stretches_of, THOUSAND, RATES, ((0, 365), (5000, 366)), 0, 100000)
        tables = (tuple((3 * day, day % 2) for day in range(1000)), ((0, 0),) + tuple((3 * day + 1, day % 2) for day in range(999)),
                  ((0, 365),) + tuple((3 * day + 2, 365 + day % 2) for day in range(999)))
        many = len(fewest(tables, 0, 3010))
        self.assertGreater(many, 2900)
        self.refused(TooMany, many, stretches_of, *tables, 0, 100000)
        self.assertEqual(stretches_of(*tables, 100, 1000), fewest(tables, 100, 1000))

    def test_errors_in_their_sequence(self):
        for value in no_tables():
            self.refused(BadTable, value, stretches_of, value, None, None, None, None)
            self.refused(BadTable, value, stretches_of, BALANCES, value, None, None, None)
            self.refused(BadTable, value, stretches_of, BALANCES, RATES, value, None, None)
            self.refused(BadTable, value, stretches_of, BALANCES, RATES, value, 0, 1)
        for value in (((0, MOST + 1),), ((0, -MOST - 1),), ((0, 0), (5, MOST + 1))):
            self.refused(BadTable, value, stretches_of, value, RATES, YEARS, 0, 1)
        for value in (((0, -1),), ((0, 10 ** 6 + 1),), ((0, 0), (5, -1))):
            self.refused(BadTable, value, stretches_of, BALANCES, value, YEARS, 0, 1)
        for value in (((0, 364),), ((0, 367),), ((0, 365), (9, 0))):
            self.refused(BadTable, value, stretches_of, BALANCES, RATES, value, 0, 1)
        self.assertEqual(stretches_of(((0, -MOST), (1, MOST)), ((0, 10 ** 6),), ((0, 365),), 0, 2),
                         ((1, -MOST, 10 ** 6, 365), (1, MOST, 10 ** 6, 365)))
        for value in odd_values() + [100001, -1, '0', (0,)]:
            if not same(value, 0) and not same(value, 1):
                self.refused(BadNumber, value, stretches_of, BALANCES, RATES, YEARS, value, None)
                self.refused(BadNumber, value, stretches_of, BALANCES, RATES, YEARS, 0, value)
        self.refused(BadNumber, 4, stretches_of, BALANCES, RATES, YEARS, 5, 4)
        self.refused(BadNumber, 100001, stretches_of, BALANCES, RATES, YEARS, 100000, 100001)
        self.refused(BadNumber, -1, stretches_of, THOUSAND, RATES, YEARS, -1, 100000)


class OfPaidIn(Raising):

    def test_ordinary(self):
        self.assertEqual(paid_in(BALANCES, RATES, YEARS, (), 5), ())
        self.assertTrue(same(paid_in(((0, 1000),), RATES, ((0, 365),), (1, 2, 73), 0),
                             ((0, 18300000000), (0, 36600000000), (10, 0))))

    def test_interest_bears_interest_from_the_day_of_the_end_on(self):
        table, rates, years = ((0, 0), (5, -3), (6, 1)), ((0, 10 ** 6),), ((0, 365),)
        self.assertEqual(paid_in(table, rates, years, (5, 6, 371, 736), 0), ((0, 0), (0, 0), (1, 0), (2, 0)))
        self.assertEqual(paid_in(((0, 365), (1, -364)), rates, years, (1, 366), 0), ((1, 0), (0, 0)))
        self.assertEqual(paid_in(((0, 365), (1, 0)), rates, years, (1, 366), 0), ((1, 0), (1, 0)))

    def test_drawn(self):
        draw = random.Random(15)
        refused = 0
        for _ in range(400):
            tables = drawn_tables(draw, 60)
            ends = tuple(sorted(draw.sample(range(1, 90), draw.randint(0, 8))))
            rest = drawn_rest(draw)
            expected = paid_day_by_day(tables, ends, rest)
            if expected is None:
                refused += 1
                self.refused(BadTable, tables[0], paid_in, *tables, ends, rest)
            else:
                self.assertEqual(paid_in(*tables, ends, rest), expected)
                plain = parts_of(stretches_of(*tables, 0, max(ends, default=0)))
                self.assertGreaterEqual(sum(units for units, _ in expected), (rest + plain) // PARTS)
        self.assertGreater(refused, 5)

    def test_greatest(self):
        ends = tuple(range(100, 100001, 100))
        told = paid_in(tuple((day, day % 3) for day in range(1000)), ((0, 10 ** 4),), ((0, 365),), ends, PARTS - 1)
        self.assertEqual(len(told), 1000)
        self.assertEqual(paid_in(((0, MOST),), ((0, 10 ** 6),), ((0, 365),), (100000,), 0)[0][0], 100000 * MOST // 365)

    def test_balances_that_become_too_great(self):
        rates, years = ((0, 10 ** 6),), ((0, 365),)
        at_most = ((0, MOST // 2), (365, MOST // 2))
        self.assertEqual(paid_in(at_most, rates, years, (365, 400), 0)[0], (MOST // 2, 0))
        for balances in (((0, MOST // 2), (365, MOST // 2 + 1)), ((0, MOST // 2), (390, MOST // 2 + 1)),
                         ((0, MOST // 2), (399, MOST // 2 + 1))):
            self.refused(BadTable, balances, paid_in, balances, rates, years, (365, 400), 0)
            self.assertEqual(paid_in(balances, rates, years, (365,), 0), ((MOST // 2, 0),))
        behind = ((0, MOST // 2), (400, MOST // 2 + 1))
        self.assertEqual(len(paid_in(behind, rates, years, (365, 400), 0)), 2)
        self.refused(BadTable, behind, paid_in, behind, rates, years, (365, 401), 0)

    def test_too_many_days_of_one_end(self):
        rates, years = ((0, 10 ** 6),), ((0, 365), (5000, 366))
        self.refused(TooMany, 1001, paid_in, THOUSAND, rates, years, (6000,), 0)
        self.refused(TooMany, 1002, paid_in, ((0, 5), (5001, 1)) + tuple((day + 5002, day % 2) for day in range(998)), rates,
                     ((0, 365), (5000, 366), (6500, 365)), (4999, 9000), 0)
        self.assertEqual(len(paid_in(THOUSAND, rates, years, (999, 6000), 0)), 2)

    def test_end_by_end_and_too_many_first(self):
        rates, years = ((0, 10 ** 6),), ((0, 365), (5000, 366))
        high = ((0, MOST),) + tuple((day + 1000, MOST - 1 - day % 2) for day in range(999))
        self.refused(TooMany, 1001, paid_in, high, rates, years, (365, 6000), 0)
        self.refused(BadTable, high, paid_in, high, rates, years, (365, 366, 6000), 0)
        self.refused(TooMany, 1001, paid_in, high, rates, years, (6000, 6001), 0)

    def test_errors_in_their_sequence(self):
        for value in no_tables():
            self.refused(BadTable, value, paid_in, value, None, None, None, None)
            self.refused(BadTable, value, paid_in, BALANCES, value, None, None, None)
            self.refused(BadTable, value, paid_in, BALANCES, RATES, value, None, None)
        self.refused(BadTable, ((0, MOST + 1),), paid_in, ((0, MOST + 1),), None, None, None, None)
        self.refused(BadTable, ((0, -1),), paid_in, BALANCES, ((0, -1),), None, None, None)
        self.refused(BadTable, ((0, 364),), paid_in, BALANCES, RATES, ((0, 364),), None, None)
        for value in odd_values() + [[5], (0,), (5, 5), (5, 4), (100001,), (5, True), (5, '6'), (5, None), 5,
                                     tuple(range(1, 1002)), (1, (2,))]:
            if not same(value, ()) and not same(value, (1, 2, 3)):
                self.refused(BadEnds, value, paid_in, BALANCES, RATES, YEARS, value, None)
                self.refused(BadEnds, value, paid_in, BALANCES, RATES, YEARS, value, 0)
        self.assertEqual(len(paid_in(BALANCES, RATES, YEARS, tuple(range(1, 1001)), 0)), 1000)
        for value in no_rests():
            self.refused(BadRest, value, paid_in, BALANCES, RATES, YEARS, (5,), value)
            self.refused(BadRest, value, paid_in, THOUSAND, RATES, ((0, 365), (5000, 366)), (6000,), value)
