import unittest

from oncebooked.entries import Bank, bank_text, batch_text
from oncebooked.errors import BadNight, BadRow, BadTexts, NoBranch
from oncebooked.plainly import balances_behind, least_limits, letters_in, plain_balances, plain_night, plain_row
from tests import nights
from tests.test_shelves import Raising
from tests.values import odd_values, same

BANK = Bank('branch east 2\nbranch west 1\nbranch lone 0\naccount east.ann 50 0\naccount west.cid 7 0\n'
            'account east.bob 0 20\naccount east.eve -5 5')
ONE = batch_text(BANK, 1, 'east', (('east.ann', 'west.cid', 30), ('east.ann', 'east.bob', 40), ('east.bob', 'west.cid', 20)))
TWO = batch_text(BANK, 2, 'east', (('east.ann', 'east.bob', 20), ('east.eve', 'east.ann', 1), ('east.bob', 'east.ann', 21)))
OTHER = batch_text(BANK, 1, 'west', (('west.cid', 'east.ann', 7),))
NIGHT = ((ONE, TWO), (OTHER,), ())
ROW = (('booked', 'east.ann', 'west.cid', 30), ('bounced', 'east.ann', 'east.bob', 40), ('booked', 'east.bob', 'west.cid', 20))
MORE = (('booked', 'east.ann', 'east.bob', 20), ('bounced', 'east.eve', 'east.ann', 1), ('bounced', 'east.bob', 'east.ann', 21))
NO_NAMES = odd_values() + ['north', 'eas', 'east.ann', 'EAST', ('east',), ['east'], ('east', 2)]
MOST = 10 ** 15


def bad_texts():
    """(number, texts) for what are no texts of east."""
    found = [(None, value) for value in odd_values() if not isinstance(value, tuple)]
    found += [(0, value) for value in odd_values() if isinstance(value, tuple) and len(value) in (1, 2)]
    found += [(None, value) for value in odd_values() if isinstance(value, tuple) and len(value) > 2]
    found += [(None, [ONE]), (None, ONE), (None, (ONE, TWO, TWO)), (None, (None, None, None)), (0, (None, None)),
              (0, (TWO,)), (0, (OTHER,)), (0, (OTHER, TWO)), (0, (ONE + '\n',)), (0, ((ONE,),)), (0, ([ONE], TWO)),
              (1, (ONE, ONE)), (1, (ONE, OTHER)), (1, (ONE, None)), (1, (ONE, TWO + '\n')), (1, (ONE, True)),
              (0, (TWO, ONE)), (0, ('', TWO)), (1, (ONE, 'batch 2 east 1 0'))]
    return found


class Ordinary(Raising):

    def test_rows(self):
        self.assertTrue(same(plain_row(BANK, 'east', ()), ()))
        self.assertTrue(same(plain_row(BANK, 'east', (ONE,)), ROW))
        self.assertTrue(same(plain_row(BANK, 'east', (ONE, TWO)), ROW + MORE))
        self.assertEqual(plain_row(BANK, 'west', (OTHER,)), (('booked', 'west.cid', 'east.ann', 7),))
        self.assertEqual(plain_row(BANK, 'lone', ()), ())
        self.assertEqual(plain_night(BANK, NIGHT), (ROW + MORE, (('booked', 'west.cid', 'east.ann', 7),), ()))

    def test_limits_are_reached_and_not_passed(self):
        bank = Bank('branch a 1\naccount a.x 3 2\naccount a.y 0 0')
        entries = (('a.x', 'a.y', 6), ('a.x', 'a.y', 5), ('a.x', 'a.y', 1), ('a.y', 'a.x', 5), ('a.y', 'a.x', 1))
        row = plain_row(bank, 'a', (batch_text(bank, 1, 'a', entries),))
        self.assertEqual([booking[0] for booking in row], ['bounced', 'booked', 'bounced', 'booked', 'bounced'])

    def test_letters(self):
        self.assertTrue(same(letters_in(BANK, 'east', ROW, 'west'), ((1, 'west.cid', 30), (2, 'west.cid', 20))))
        self.assertEqual(letters_in(BANK, 'east', ROW + MORE, 'lone'), ())
        self.assertEqual(letters_in(BANK, 'west', (), 'east'), ())

    def test_letters_of_like_names(self):
        bank = Bank('branch a 1\nbranch aa 1\nbranch ab 0\naccount a.x 9 0\naccount aa.a 0 0\naccount ab.a 0 0\naccount aa.x 0 0')
        entries = (('a.x', 'aa.a', 1), ('a.x', 'ab.a', 2), ('a.x', 'aa.x', 3))
        row = plain_row(bank, 'a', (batch_text(bank, 1, 'a', entries),))
        self.assertEqual(letters_in(bank, 'a', row, 'aa'), ((1, 'aa.a', 1), (2, 'aa.x', 3)))
        self.assertEqual(letters_in(bank, 'a', row, 'ab'), ((1, 'ab.a', 2),))
        self.assertEqual(balances_behind(bank, 'a', row), (('a.x', 3),))
        self.assertEqual(plain_row(bank, 'aa', (batch_text(bank, 1, 'aa', (('aa.a', 'a.x', 1),)),))[0][0], 'bounced')

    def test_words_are_taken_as_they_are_told(self):
        row = (('booked', 'east.ann', 'west.cid', 10 ** 12), ('bounced', 'east.ann', 'west.cid', 1),
               ('booked', 'east.bob', 'east.ann', 3), ('booked', 'east.ann', 'west.cid', 2))
        self.assertEqual(letters_in(BANK, 'east', row, 'west'), ((1, 'west.cid', 10 ** 12), (2, 'west.cid', 2)))
        self.assertTrue(same(balances_behind(BANK, 'east', row),
                             (('east.ann', 51 - 10 ** 12), ('east.bob', -3), ('east.eve', -5))))

    def test_balances(self):
        self.assertEqual(balances_behind(BANK, 'east', ()), (('east.ann', 50), ('east.bob', 0), ('east.eve', -5)))
        self.assertEqual(balances_behind(BANK, 'east', ROW + MORE), (('east.ann', 0), ('east.bob', 0), ('east.eve', -5)))
        self.assertEqual(balances_behind(BANK, 'lone', ()), ())
        self.assertTrue(same(plain_balances(BANK, NIGHT),
                             (('east.ann', 7), ('west.cid', 50), ('east.bob', 0), ('east.eve', -5))))

    def test_least_limits(self):
        self.assertTrue(same(least_limits(BANK, 'east', (ONE, TWO)), (('east.ann', 40), ('east.bob', 0), ('east.eve', 6))))
        self.assertEqual(least_limits(BANK, 'east', (ONE,)), (('east.ann', 20), ('east.bob', 0)))
        self.assertEqual(least_limits(BANK, 'west', (OTHER,)), (('west.cid', 0),))
        self.assertEqual(least_limits(BANK, 'east', ()), ())
        self.assertEqual(least_limits(BANK, 'lone', ()), ())

    def test_least_limits_that_no_bank_can_have(self):
        bank = Bank(f'branch a 50\nbranch b 0\naccount a.x {-MOST} {MOST}\naccount b.y {MOST} 0')
        texts = tuple(batch_text(bank, number + 1, 'a', (('a.x', 'b.y', 10 ** 12),) * 50) for number in range(50))
        self.assertEqual(least_limits(bank, 'a', texts), (('a.x', MOST + 2500 * 10 ** 12),))
        self.assertEqual({booking[0] for booking in plain_row(bank, 'a', texts)}, {'bounced'})

    def test_greatest_night(self):
        names = ('aaaaaaaa', 'bbbbbbbb', 'cccccccc', 'dddddddd', 'eeeeeeee', 'ffffffff')
        accounts = tuple((f'{name}.{other}', MOST, MOST) for name in names for other in 'abcdefghij')
        bank = Bank(bank_text(tuple((name, 50) for name in names), accounts))
        night = tuple(tuple(batch_text(bank, number, name, ((name + '.a', 'aaaaaaaa.b', 10 ** 12),) * 50)
                            for number in range(1, 51)) for name in names)
        rows = plain_night(bank, night)
        self.assertEqual([len(row) for row in rows], [2500] * 6)
        self.assertEqual([sum(booking[0] == 'booked' for booking in row) for row in rows], [2000] * 6)
        told = dict(plain_balances(bank, night))
        self.assertEqual((told['aaaaaaaa.a'], told['aaaaaaaa.b']), (-MOST, MOST + 6 * 2000 * 10 ** 12))
        self.assertEqual(len(letters_in(bank, 'bbbbbbbb', rows[1], 'aaaaaaaa')), 2000)


class Errors(Raising):

    def test_no_branch_comes_first(self):
        for value in NO_NAMES:
            for function, more in ((plain_row, (None,)), (plain_row, ((),)), (letters_in, (None, None)),
                                   (letters_in, ((), 'west')), (balances_behind, (None,)), (balances_behind, ((),)),
                                   (least_limits, (None,)), (least_limits, ((),))):
                self.refused(NoBranch, value, function, BANK, value, *more)

    def test_bad_texts(self):
        for number, texts in bad_texts():
            for function in (plain_row, least_limits):
                self.refused(BadTexts, number, function, BANK, 'east', texts)
        self.refused(BadTexts, None, plain_row, BANK, 'lone', (ONE,))
        self.refused(BadTexts, 0, plain_row, BANK, 'west', (ONE,))

    def test_bad_nights(self):
        for function in (plain_night, plain_balances):
            for value in odd_values() + [list(NIGHT), NIGHT[:2], NIGHT + ((),), (), NIGHT[0]]:
                if not (isinstance(value, tuple) and len(value) == 3):
                    self.refused(BadNight, None, function, BANK, value)
            for _, texts in bad_texts():
                self.refused(BadNight, 0, function, BANK, (texts,) + NIGHT[1:])
                self.refused(BadNight, 0, function, BANK, (texts, None, None))
            for texts in ((ONE,), (), (TWO,)):
                self.refused(BadNight, 0, function, BANK, (texts,) + NIGHT[1:])
            for texts in ((), (ONE,), [OTHER], (OTHER, OTHER), None):
                self.refused(BadNight, 1, function, BANK, (NIGHT[0], texts, None))
            for texts in (None, [], '', (ONE,), {}):
                self.refused(BadNight, 2, function, BANK, NIGHT[:2] + (texts,))
            self.refused(BadNight, 0, function, BANK, (NIGHT[1], NIGHT[0], ()))

    def test_bad_rows(self):
        good = ROW[0]
        wrong = odd_values() + [
            list(ROW), (list(good),), (good, None), (None, good), (good[1:],), (good + (1,),), good,
            (('Booked',) + good[1:],), (('',) + good[1:],), ((True,) + good[1:],), ((['booked'],) + good[1:],),
            (good, ('booked', 'west.cid', 'east.ann', 1)), (good, ('booked', 'east.ann', 'east.ann', 1)),
            (good, ('booked', 'east.ann', 'west.x', 1)), (good, ('booked', 'east.x', 'west.cid', 1)),
            (good, ('booked', 'east.ann', 'west.cid', 0)), (good, ('booked', 'east.ann', 'west.cid', True)),
            (good, ('bounced', 'east.ann', 'west.cid', 10 ** 12 + 1)), (good, ('booked', 'east.ann', ['west.cid'], 1)),
            (good,) * 2501]
        for value in wrong:
            if not same(value, ()):
                self.refused(BadRow, value, balances_behind, BANK, 'east', value)
                self.refused(BadRow, value, letters_in, BANK, 'east', value, 'west')
                self.refused(BadRow, value, letters_in, BANK, 'east', value, None)
        self.refused(BadRow, ROW, balances_behind, BANK, 'west', ROW)
        self.assertEqual(len(letters_in(BANK, 'east', (good,) * 2500, 'west')), 2500)

    def test_no_other_branch_comes_last(self):
        for value in NO_NAMES + ['east']:
            self.refused(NoBranch, value, letters_in, BANK, 'east', ROW, value)


class Drawn(unittest.TestCase):

    def test_all_agree_with_point_5(self):
        for seed in range(250):
            _, text, night = nights.drawn(seed)
            bank = Bank(text)
            rows = nights.plain_rows(text, night)
            self.assertEqual(plain_night(bank, night), tuple(rows.values()))
            self.assertEqual(plain_balances(bank, night), nights.plain_balances(text, night))
            for name, texts in zip(rows, night):
                self.assertEqual(plain_row(bank, name, texts), rows[name])
                expected = tuple(nights.standing_behind(text, name, rows[name]).items())
                self.assertEqual(balances_behind(bank, name, rows[name]), expected)
                for other in rows:
                    if other != name:
                        self.assertEqual(letters_in(bank, name, rows[name], other), nights.letters_in(rows[name], other))

    def test_sum_stays_and_no_limit_is_passed(self):
        for seed in range(250):
            _, text, night = nights.drawn(seed)
            bank = Bank(text)
            told = plain_balances(bank, night)
            self.assertEqual(sum(balance for _, balance in told), sum(balance for _, balance, _ in bank.accounts))
            for (_, balance), (_, _, limit) in zip(told, bank.accounts):
                self.assertGreaterEqual(balance, -limit)

    def test_more_batches_stand_behind(self):
        for seed in range(100):
            _, text, night = nights.drawn(seed)
            bank = Bank(text)
            for (name, many), texts in zip(bank.branches, night):
                whole = plain_row(bank, name, texts)
                for upto in range(many):
                    row = plain_row(bank, name, texts[:upto])
                    self.assertEqual(whole[:len(row)], row)

    def test_least_limits_are_enough_and_none_less_is(self):
        for seed in range(150):
            _, text, night = nights.drawn(seed)
            bank = Bank(text)
            for (name, _), texts in zip(bank.branches, night):
                least = dict(least_limits(bank, name, texts))
                payers = [payer for payer, _, _ in nights.entries_in(texts)]
                self.assertEqual(list(least), [row[0] for row in bank.accounts if row[0] in payers])
                self.assertEqual(bounces(bank, name, texts, least), 0)
                for account in least:
                    if least[account] > 0:
                        less = {**least, account: least[account] - 1}
                        self.assertGreater(bounces(bank, name, texts, less), 0)
                        more = {**least, account: least[account] + 5}
                        self.assertEqual(bounces(bank, name, texts, more), 0)


def bounces(bank, name, texts, limits):
    """How many entries bounce if these are the limits, worked out by hand: no bank might have them."""
    standing = nights.standing_behind(bank.text, name, ())
    many = 0
    for payer, payee, amount in nights.entries_in(texts):
        if standing[payer] - amount < -limits[payer]:
            many += 1
            continue
        standing[payer] -= amount
        if payee in standing:
            standing[payee] += amount
    return many
