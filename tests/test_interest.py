import random
from fractions import Fraction

from oncebooked.errors import BadNumber, BadRest, BadStretch, BadStretches, BadWeights, TooMany
from oncebooked.interest import Accrual, daily, first_day, parts_of, split, true_interest
from tests.test_shelves import Raising
from tests.values import odd_values, same

PARTS = 133590000000
YEAR = (365, 1000, 50000, 365)
GREATEST = (100000, 10 ** 12, 10 ** 6, 365)
LEAST = (1, -10 ** 12, 0, 366)


def no_stretches():
    """Values that are no stretch."""
    return odd_values() + [
        list(YEAR), YEAR[:3], YEAR + (1,), (0,) + YEAR[1:], (-1,) + YEAR[1:], (100001,) + YEAR[1:], (True,) + YEAR[1:],
        ('1',) + YEAR[1:], (None,) + YEAR[1:], (1, 10 ** 12 + 1, 0, 365), (1, -10 ** 12 - 1, 0, 365), (1, True, 0, 365),
        (1, '1', 0, 365), (1, None, 0, 365), (1, 1, -1, 365), (1, 1, 10 ** 6 + 1, 365), (1, 1, True, 365), (1, 1, '1', 365),
        (1, 1, 1, 364), (1, 1, 1, 367), (1, 1, 1, True), (1, 1, 1, '365'), (1, 1, 1, None), (1, 1, 1, [365]), (1, 1, 1, (365,))]


def no_rests():
    return [value for value in odd_values() if not same(value, 0) and not same(value, 1)] + [-1, PARTS, '0', (0,)]


def true_of(stretches):
    """The true interest as a fraction, as the section tells it."""
    return sum([Fraction(days * balance * rate, 10 ** 6 * year) for days, balance, rate, year in stretches if balance > 0],
               Fraction(0))


def drawn_stretch(draw, most=500):
    balance = draw.choice((draw.randint(-50, 10 ** 4), draw.randint(-10 ** 12, 10 ** 12), 10 ** 12, 0))
    return (draw.randint(1, most), balance, draw.choice((draw.randint(0, 10 ** 6), 50000, 0)), draw.choice((365, 366)))


def drawn_stretches(draw, most=6, days=500):
    return tuple(drawn_stretch(draw, days) for _ in range(draw.randint(0, most)))


def drawn_rest(draw):
    return draw.choice((0, PARTS - 1, draw.randrange(PARTS), draw.randrange(1000)))


def cut_up(draw, stretches):
    """The same days, in shorter stretches."""
    found = []
    for days, balance, rate, year in stretches:
        while days > 0:
            part = draw.choice((1, days, draw.randint(1, days)))
            found.append((part, balance, rate, year))
            days -= part
    return tuple(found)


class OfParts(Raising):

    def test_ordinary(self):
        self.assertTrue(same(parts_of(()), 0))
        self.assertTrue(same(true_interest(()), (0, 1)))
        self.assertEqual(parts_of(((1, 1, 1, 365),)), 366)
        self.assertEqual(parts_of(((1, 1, 1, 366),)), 365)
        self.assertEqual(parts_of(((1, 1, 1, 365), (2, 3, 5, 366), (9, -1, 5, 366), (9, 0, 5, 365))), 366 + 30 * 365)
        self.assertEqual(true_interest(((1, 1, 1, 366),)), (1, 366000000))
        self.assertEqual(true_interest(((365, 3, 500000, 365),)), (3, 2))
        self.assertEqual(true_interest(((365, 1000, 0, 365), LEAST)), (0, 1))

    def test_greatest(self):
        self.assertEqual(parts_of((GREATEST,) * 1000), 1000 * 100000 * 10 ** 12 * 10 ** 6 * 366)
        self.assertEqual(true_interest((GREATEST,) * 1000), (10 ** 20 // 5, 73))

    def test_drawn(self):
        draw = random.Random(8)
        for _ in range(300):
            stretches = drawn_stretches(draw)
            true = true_of(stretches)
            self.assertEqual(Fraction(parts_of(stretches), PARTS), true)
            self.assertEqual(true_interest(stretches), (true.numerator, true.denominator))
            self.assertEqual(parts_of(cut_up(draw, stretches)), parts_of(stretches))

    def test_bad_stretches(self):
        for function, more in ((parts_of, ()), (true_interest, ()), (daily, (None,))):
            for value in odd_values() + [[YEAR], YEAR]:
                if not isinstance(value, tuple):
                    self.refused(BadStretches, None, function, value, *more)
                elif value != ():
                    self.refused(BadStretches, 0, function, value, *more)
            for value in no_stretches():
                self.refused(BadStretches, 0, function, (value, None), *more)
                self.refused(BadStretches, 2, function, (YEAR, LEAST, value, GREATEST), *more)
            self.refused(BadStretches, None, function, (YEAR,) * 1001, *more)
            self.refused(BadStretches, None, function, (None,) * 1001, *more)
            self.refused(BadStretches, 999, function, (YEAR,) * 999 + (None,), *more)


class OfAnAccrual(Raising):

    def told(self, accrual):
        return (accrual.rest, accrual.paid, accrual.days)

    def test_ordinary(self):
        accrual = Accrual(5)
        self.assertTrue(same(self.told(accrual), (5, 0, 0)))
        self.assertEqual((accrual.go_on((73, 1000, 50000, 365)), self.told(accrual)), (10, (5, 10, 73)))
        self.assertEqual((accrual.go_on((1, 1, 1, 365)), self.told(accrual)), (0, (371, 10, 74)))
        self.assertEqual((accrual.go_on((9, -7, 10 ** 6, 366)), self.told(accrual)), (0, (371, 10, 83)))
        self.assertEqual((accrual.go_on(GREATEST), accrual.days), (10 ** 17 // 365, 100083))
        self.assertEqual(accrual.paid, 10 + 10 ** 17 // 365)

    def test_a_unit_is_paid_as_soon_as_it_is_there(self):
        accrual = Accrual(PARTS - 366)
        self.assertEqual((accrual.go_on((1, 1, 1, 365)), accrual.rest), (1, 0))
        accrual = Accrual(PARTS - 367)
        self.assertEqual((accrual.go_on((1, 1, 1, 365)), accrual.rest), (0, PARTS - 1))

    def test_close(self):
        for rest, units in ((0, 0), (1, 0), (PARTS // 2 - 1, 0), (PARTS // 2, 1), (PARTS // 2 + 1, 1), (PARTS - 1, 1)):
            accrual = Accrual(rest)
            self.assertEqual((accrual.close(), self.told(accrual)), (units, (0, units, 0)))
            self.assertEqual((accrual.close(), self.told(accrual)), (0, (0, units, 0)))
        accrual = Accrual(PARTS - 1)
        accrual.go_on((1, 1000, 50000, 365))
        accrual.go_on((4, 1000, 50000, 365))
        self.assertEqual((accrual.close(), self.told(accrual)), (1, (0, 2, 5)))
        self.assertEqual(accrual.go_on((73, 1000, 50000, 365)), 10)

    def test_copy(self):
        accrual = Accrual(7)
        accrual.go_on(YEAR)
        twin = accrual.copy()
        self.assertIsInstance(twin, Accrual)
        self.assertEqual(self.told(twin), self.told(accrual))
        twin.go_on((1, 5, 5, 365))
        self.assertEqual(self.told(accrual), (7, 50, 365))
        accrual.close()
        accrual.go_on(YEAR)
        self.assertEqual(self.told(twin), (7 + 25 * 366, 50, 366))

    def test_bad_rests(self):
        for value in no_rests():
            self.refused(BadRest, value, Accrual, value)
        self.assertEqual(Accrual(PARTS - 1).rest, PARTS - 1)

    def test_bad_stretches(self):
        accrual = Accrual(3)
        for value in no_stretches():
            self.refused(BadStretch, value, accrual.go_on, value)
        self.assertEqual(self.told(accrual), (3, 0, 0))

    def test_nothing_hangs_on_how_the_days_are_cut(self):
        draw = random.Random(9)
        for _ in range(250):
            stretches, rest = drawn_stretches(draw), drawn_rest(draw)
            units, left = divmod(rest + parts_of(stretches), PARTS)
            days = sum(stretch[0] for stretch in stretches)
            for row in (stretches, cut_up(draw, stretches), cut_up(draw, stretches)):
                accrual = Accrual(rest)
                paid = sum([accrual.go_on(stretch) for stretch in row])
                self.assertEqual((paid, self.told(accrual)), (units, (left, units, days)))
            self.assertIn(units - int(true_of(stretches)), (0,) if rest == 0 else (0, 1))


class OfDaily(Raising):

    def test_ordinary(self):
        self.assertEqual(daily((), 5), ())
        self.assertTrue(same(daily(((1, 1, 1, 365), (2, -5, 5, 365), (1, 1, 2, 366)), PARTS - 367),
                             ((0, PARTS - 1), (0, PARTS - 1), (0, PARTS - 1), (1, 729))))

    def test_drawn(self):
        draw = random.Random(10)
        for _ in range(150):
            stretches, rest = drawn_stretches(draw, 4, 40), drawn_rest(draw)
            accrual = Accrual(rest)
            told = []
            for days, balance, rate, year in stretches:
                for _ in range(days):
                    told.append((accrual.go_on((1, balance, rate, year)), accrual.rest))
            self.assertEqual(daily(stretches, rest), tuple(told))

    def test_errors_in_their_sequence(self):
        for value in no_rests():
            self.refused(BadRest, value, daily, (YEAR,), value)
            self.refused(BadRest, value, daily, (GREATEST,), value)
            self.refused(BadStretches, 0, daily, (None,), value)
        self.assertEqual(len(daily(((9999, 1, 1, 365), (10001, 1, 1, 366)), 0)), 20000)
        self.refused(TooMany, 20001, daily, ((10000, 1, 1, 365), (10001, 1, 1, 366)), 0)
        self.refused(TooMany, 10 ** 8, daily, (GREATEST,) * 1000, 0)


class OfFirstDay(Raising):

    def test_ordinary(self):
        self.assertTrue(same(first_day(1000, 50000, 365, 0, 0), 0))
        self.assertEqual(first_day(1000, 50000, 365, 0, 10), 73)
        self.assertEqual(first_day(1000, 50000, 365, 1, 10), 73)
        self.assertEqual(first_day(1000, 50000, 365, PARTS - 1, 10), 66)
        self.assertEqual(first_day(1, 1, 365, PARTS - 366, 1), 1)
        self.assertEqual(first_day(1, 1, 365, PARTS - 367, 1), 2)
        self.assertEqual(first_day(1, 1, 366, 0, 10 ** 12), 366 * 10 ** 18)
        for balance, rate in ((0, 5), (-1, 5), (5, 0), (-10 ** 12, 10 ** 6)):
            self.assertIsNone(first_day(balance, rate, 365, PARTS - 1, 1))
            self.assertTrue(same(first_day(balance, rate, 365, PARTS - 1, 0), 0))

    def test_drawn(self):
        draw = random.Random(11)
        for _ in range(200):
            balance, rate, year = draw.randint(1, 10 ** 7), draw.randint(1, 10 ** 5), draw.choice((365, 366))
            rest, units = drawn_rest(draw), draw.randint(1, 20)
            day = first_day(balance, rate, year, rest, units)
            each = parts_of(((1, balance, rate, year),))
            self.assertGreaterEqual((rest + day * each) // PARTS, units)
            self.assertLess((rest + (day - 1) * each) // PARTS, units)

    def test_errors_in_their_sequence(self):
        wrong = [(1, 10 ** 12 + 1, 1, 365), (1, -10 ** 12 - 1, 1, 365), (1, 1, -1, 365), (1, 1, 10 ** 6 + 1, 365),
                 (1, 1, 1, 364), (1, 1, 1, 367)]
        for value in odd_values():
            if not isinstance(value, int) or isinstance(value, bool):
                wrong += [(1, value, 1, 365), (1, 1, value, 365), (1, 1, 1, value)]
        for stretch in wrong:
            self.refused(BadStretch, stretch, first_day, *stretch[1:], None, None)
            self.refused(BadStretch, stretch, first_day, *stretch[1:], 0, 0)
        for value in no_rests():
            self.refused(BadRest, value, first_day, 1, 1, 365, value, None)
        for value in odd_values() + [10 ** 12 + 1, '1']:
            if not same(value, 0) and not same(value, 1):
                self.refused(BadNumber, value, first_day, 1, 1, 365, 0, value)
                self.refused(BadNumber, value, first_day, 0, 0, 365, 0, value)


class OfSplit(Raising):

    def test_ordinary(self):
        self.assertTrue(same(split(0, (1,)), (0,)))
        self.assertEqual(split(10 ** 15, (10 ** 12,) * 1000), (10 ** 12,) * 1000)
        self.assertEqual(split(7, (3, 0, 4, 0)), (3, 0, 4, 0))
        self.assertEqual(split(1, (0, 1, 1)), (0, 0, 1))

    def test_drawn(self):
        draw = random.Random(12)
        for _ in range(300):
            most = draw.choice((1, 3, 10, 10 ** 12))
            weights = tuple(draw.randint(0, most) for _ in range(draw.randint(1, 9))) + (draw.randint(1, most),)
            amount = draw.choice((draw.randint(0, 20), draw.randint(0, 10 ** 15)))
            shares = split(amount, weights)
            self.assertEqual((sum(shares), len(shares)), (amount, len(weights)))
            for at, (share, weight) in enumerate(zip(shares, weights)):
                self.assertEqual(sum(shares[:at + 1]), amount * sum(weights[:at + 1]) // sum(weights))
                true = Fraction(amount * weight, sum(weights))
                self.assertIn(share, (int(true), -int(-true // 1)))

    def test_errors_in_their_sequence(self):
        for value in odd_values() + [10 ** 15 + 1, -1, '1']:
            if not same(value, 0) and not same(value, 1):
                self.refused(BadNumber, value, split, value, None)
                self.refused(BadNumber, value, split, value, (1,))
        for value in odd_values() + [(0,), (0, 0), [1], (1, -1), (2, True), (1, '1'), (1, None), (1, 10 ** 12 + 1), (1,) * 1001,
                                     (-1, 5), (1, (1,))]:
            if not same(value, (1, 2, 3)):
                self.refused(BadWeights, value, split, 5, value)
