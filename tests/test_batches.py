import unittest

from oncebooked.entries import Bank, Batch, batch_text
from oncebooked.errors import BadBatch, BadEntries, BadNumber, NoBranch
from oncebooked.shelves import Shelf
from tests.test_shelves import Raising
from tests.values import odd_values, same

BANK = Bank('branch east 3\nbranch west 0\nbranch south 50\n'
            'account east.ann 50 0\naccount west.cid 0 10\naccount east.bob 0 20\naccount south.eve 0 0')
ENTRIES = (('east.ann', 'west.cid', 30), ('east.ann', 'east.bob', 40), ('east.bob', 'south.eve', 10 ** 12))
LINES = ['batch 2 east 3 1000000000070', 'entry east.ann west.cid 30', 'entry east.ann east.bob 40',
         'entry east.bob south.eve 1000000000000']
TEXT = '\n'.join(LINES)
FIFTY = (('east.ann', 'east.bob', 10 ** 12),) * 50


class OfABatch(Raising):

    def bad(self, number, *lines):
        self.refused(BadBatch, number, Batch, BANK, '\n'.join(lines))

    def test_ordinary(self):
        batch = Batch(BANK, TEXT)
        self.assertIs(batch.bank, BANK)
        self.assertTrue(same((batch.text, batch.number, batch.branch, batch.entries), (TEXT, 2, 'east', ENTRIES)))
        self.assertEqual(batch_text(BANK, 2, 'east', ENTRIES), TEXT)

    def test_least_and_greatest(self):
        batch = Batch(BANK, 'batch 1 east 0 0')
        self.assertEqual((batch.number, batch.entries), (1, ()))
        text = batch_text(BANK, 3, 'east', FIFTY)
        self.assertEqual(text.split('\n')[0], 'batch 3 east 50 50000000000000')
        self.assertEqual(Batch(BANK, text).entries, FIFTY)
        self.assertEqual(Batch(BANK, 'batch 50 south 0 0').number, 50)

    def test_not_a_text(self):
        for value in odd_values():
            self.refused(BadBatch, 1 if isinstance(value, str) else 0, Batch, BANK, value)

    def test_first_lines_that_cannot_stand(self):
        for line in ('', ' ', 'batch', 'batch 2', 'batch 2 east', 'batch 2 east 3', 'batch 2 east 3 1000000000070 0',
                     'batch 2 east 3 1000000000070 ', ' batch 2 east 3 1000000000070', 'batch  2 east 3 1000000000070',
                     'Batch 2 east 3 1000000000070', 'entry east.ann west.cid 30', 'batch 0 east 3 1000000000070',
                     'batch 4 east 3 1000000000070', 'batch -1 east 3 1000000000070', 'batch 02 east 3 1000000000070',
                     'batch +2 east 3 1000000000070', 'batch x east 3 1000000000070', 'batch 2 north 3 1000000000070',
                     'batch 2 East 3 1000000000070', 'batch 1 west 3 1000000000070', 'batch 2 east -1 1000000000070',
                     'batch 2 east 51 1000000000070', 'batch 2 east 03 1000000000070', 'batch 2 east x 1000000000070',
                     'batch 2 east 3 -1', 'batch 2 east 3 01000000000070', 'batch 2 east 3 1000000000000001',
                     'batch 2 east 3 x', 'batch 2 east 3 -0', 'batch 2 east.ann 3 1000000000070',
                     'batch\t2 east 3 1000000000070', 'batch 2 east 3 ' + '1' * 5000, 'batch ' + '1' * 5000 + ' east 3 0'):
            self.bad(1, line, *LINES[1:])
            self.bad(1, line, 'entry', *LINES[2:])
            self.bad(1, line, *LINES[1:3])
            self.bad(1, line, *LINES, '')
        self.refused(BadBatch, 1, Batch, BANK, '\n' + TEXT)
        self.bad(1, 'batch 1 west 0 0')
        self.bad(1, 'batch 2 east 51 1000000000070', 'x')

    def test_entries_that_cannot_stand(self):
        for line in ('', ' ', 'entry', 'entry east.ann', 'entry east.ann east.bob', 'entry east.ann east.bob 40 1',
                     'entry east.ann east.bob 40 ', 'entry  east.ann east.bob 40', 'Entry east.ann east.bob 40',
                     'booked east.ann east.bob 40', 'entry east.ann east.ann 40', 'entry east.x east.bob 40',
                     'entry east.ann east.x 40', 'entry west.cid east.ann 40', 'entry south.eve east.ann 40',
                     'entry east.ann east.bob 0', 'entry east.ann east.bob -40', 'entry east.ann east.bob 040',
                     'entry east.ann east.bob +40', 'entry east.ann east.bob x', 'entry east.ann east.bob 1000000000001',
                     'entry east.ann east.bob -0', 'entry ann bob 40', 'entry\teast.ann east.bob 40',
                     'entry east.ann east.bob ' + '4' * 5000, 'batch 1 east 0 0'):
            self.bad(3, LINES[0], LINES[1], line, LINES[3])
            self.bad(2, LINES[0], line, LINES[1], LINES[2], LINES[3])
            self.bad(4, LINES[0], LINES[1], LINES[2], line)
            self.bad(3, LINES[0], LINES[1], line)
        self.bad(2, LINES[0], 'entry', 'entry')

    def test_more_lines_than_told(self):
        self.refused(BadBatch, 5, Batch, BANK, TEXT + '\n')
        self.bad(5, *LINES, LINES[1])
        self.bad(5, *LINES, 'x', 'y')
        self.bad(2, 'batch 1 east 0 0', '')
        self.bad(3, 'batch 1 east 1 30', LINES[1], LINES[1])
        self.bad(3, 'batch 1 east 1 99', LINES[1], LINES[1])

    def test_lines_lack(self):
        self.bad(4, *LINES[:3])
        self.bad(3, *LINES[:2])
        self.bad(2, LINES[0])
        self.bad(3, 'batch 2 east 3 30', LINES[1])
        self.bad(4, *LINES[:3], '')
        self.bad(3, 'batch 1 east 50 30', LINES[1])

    def test_sum_is_told_last(self):
        for line in ('batch 2 east 3 1000000000071', 'batch 2 east 3 0', 'batch 2 east 3 70', 'batch 2 east 3 1000000000000000'):
            self.bad(1, line, *LINES[1:])
            self.bad(3, line, LINES[1], 'entry', LINES[3])
            self.bad(4, line, *LINES[1:3])
            self.bad(5, line, *LINES[1:], LINES[1])
        self.bad(1, 'batch 1 east 0 1')

    def test_equality(self):
        batch = Batch(BANK, TEXT)
        self.assertTrue(batch == Batch(BANK, TEXT) and not batch != Batch(BANK, TEXT))
        self.assertTrue(batch == Batch(Bank(BANK.text), TEXT))
        other = Bank(BANK.text + '\naccount south.dan 0 0')
        self.assertTrue(batch != Batch(other, TEXT) and not batch == Batch(other, TEXT))
        self.assertTrue(batch != Batch(BANK, TEXT.replace('batch 2', 'batch 3')))
        for value in odd_values() + [TEXT, ENTRIES, BANK, Shelf(()), (BANK, TEXT)]:
            self.assertIs(batch == value, False)
            self.assertIs(value == batch, False)
            self.assertIs(batch != value, True)


class OfBatchText(Raising):

    def test_there_and_back(self):
        for number, name, entries in ((1, 'east', ()), (3, 'east', ENTRIES), (50, 'south', (('south.eve', 'west.cid', 1),)),
                                      (2, 'east', FIFTY)):
            batch = Batch(BANK, batch_text(BANK, number, name, entries))
            self.assertTrue(same((batch.number, batch.branch, batch.entries), (number, name, entries)))

    def test_no_branch_comes_first(self):
        for value in odd_values() + ['north', 'east.ann', ('east',), ['east']]:
            self.refused(NoBranch, value, batch_text, BANK, 0, value, None)
            self.refused(NoBranch, value, batch_text, BANK, 1, value, ())

    def test_bad_numbers_come_next(self):
        for value in odd_values() + [4, 0, -1, '1', (1,)]:
            if not same(value, 1):
                self.refused(BadNumber, value, batch_text, BANK, value, 'east', None)
                self.refused(BadNumber, value, batch_text, BANK, value, 'east', ())
        self.refused(BadNumber, 1, batch_text, BANK, 1, 'west', ())
        self.refused(BadNumber, 51, batch_text, BANK, 51, 'south', ())

    def test_bad_entries(self):
        good = ENTRIES[0]
        for value in odd_values() + [
                [good], list(ENTRIES), (list(good),), (good, None), (None, good), (good, good[:2]), (good, good + (1,)),
                (good, ('west.cid', 'east.ann', 1)), (good, ('south.eve', 'east.ann', 1)), (good, ('east.ann', 'east.ann', 1)),
                (good, ('east.ann', 'east.bob', True)), (good, ('east.ann', 'east.bob', 0)), (good, ('east.x', 'east.bob', 1)),
                (good, ('east.ann', 'east.bob', 10 ** 12 + 1)), (good, ('east.ann', 'east.bob', '1')), good, FIFTY + (good,),
                (good, ('east.ann', 'east.x', 1)), (good, (None, 'east.bob', 1))]:
            if not same(value, ()):
                self.refused(BadEntries, value, batch_text, BANK, 1, 'east', value)
