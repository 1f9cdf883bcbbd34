import unittest

from oncebooked.entries import accounts_of, Bank, bank_text, Batch, batch_text, branch_of, is_entry
from oncebooked.errors import BadAccount, BadAccounts, BadBank, BadBranches, NoBranch
from oncebooked.shelves import Shelf
from tests.test_shelves import Raising
from tests.values import odd_values, same

MOST = 10 ** 15
LINES = ['branch east 2', 'branch west 0', 'account east.ann 50 0', 'account west.cid -7 10', 'account east.bob 0 20']
TEXT = '\n'.join(LINES)
BRANCHES = (('east', 2), ('west', 0))
ACCOUNTS = (('east.ann', 50, 0), ('west.cid', -7, 10), ('east.bob', 0, 20))
SIX = tuple((name, 50) for name in 'fedcba')
SIXTY = tuple(('a.' + one + other, MOST, MOST) for one in 'zyxwvu' for other in 'abcdefghij')


class OfABank(Raising):

    def test_ordinary(self):
        bank = Bank(TEXT)
        self.assertTrue(same((bank.text, bank.branches, bank.accounts), (TEXT, BRANCHES, ACCOUNTS)))
        self.assertEqual(bank_text(BRANCHES, ACCOUNTS), TEXT)

    def test_least_and_greatest(self):
        bank = Bank('branch a 0')
        self.assertEqual((bank.branches, bank.accounts), ((('a', 0),), ()))
        for branches, accounts in ((SIX, SIXTY), ((('abcdefgh', 50),), (('abcdefgh.stuvwxyz', -MOST, MOST),)), (SIX, ())):
            bank = Bank(bank_text(branches, accounts))
            self.assertTrue(same((bank.branches, bank.accounts), (branches, accounts)))
        self.assertEqual(Bank('branch a 1\naccount a.a -1000000000000000 1000000000000000').accounts[0][1:], (-MOST, MOST))

    def test_not_a_text(self):
        for value in odd_values():
            if isinstance(value, str):
                self.refused(BadBank, 1, Bank, value)
            else:
                self.refused(BadBank, 0, Bank, value)

    def test_each_line_that_cannot_be_a_branch(self):
        for line in ('', ' ', 'branch', 'branch a', 'branch a 1 1', 'branch a 1 ', ' branch a 1', 'branch  a 1', 'branch a  1',
                     'branch a\t1', 'Branch a 1', 'branch A 1', 'branch abcdefghi 1', 'branch a1 1', 'branch a.b 1',
                     'branch  1', 'branch a -1', 'branch a 51', 'branch a 01', 'branch a +1', 'branch a x', 'branch a 1.0',
                     'branch a -0', 'branch a 1_0', 'branch east 1', 'branches a 1', 'batch 1 east 0 0', 'night',
                     'branch a ' + '9' * 5000, 'branch a 1\r', 'branch a 00', 'branch a None'):
            self.refused(BadBank, 2, Bank, '\n'.join([LINES[0], line] + LINES[1:]))
            if line != 'branch east 1':
                self.refused(BadBank, 1, Bank, '\n'.join([line] + LINES))

    def test_each_line_that_cannot_be_an_account(self):
        for line in ('account', 'account east.x', 'account east.x 1', 'account east.x 1 1 1', 'account east.x 1 ',
                     'account  east.x 1 1', 'Account east.x 1 1', 'account east 1 1', 'account east.x.y 1 1',
                     'account east. 1 1', 'account .x 1 1', 'account . 1 1', 'account east.X 1 1', 'account east.abcdefghi 1 1',
                     'account south.x 1 1', 'account x.east 1 1', 'account east.ann 1 1', 'account east.x -1 0',
                     'account east.x -11 10', 'account east.x 1 -1', 'account east.x 1000000000000001 0',
                     'account east.x -1000000000000001 1000000000000000', 'account east.x 0 1000000000000001',
                     'account east.x 01 1', 'account east.x 1 01', 'account east.x -0 1', 'account east.x +1 1',
                     'account east.x 1 +1', 'account east.x 1 -0', 'account east.x x 1', 'account east.x 1 x',
                     'account east.x --1 5', 'account east.x - 5', 'account east.x 1_0 5', 'branch south 1', '',
                     'account east.x ' + '1' * 5000 + ' 0', 'account east.x\t1 1'):
            self.refused(BadBank, 4, Bank, '\n'.join(LINES[:3] + [line] + LINES[3:]))
            self.refused(BadBank, 6, Bank, '\n'.join(LINES + [line]))

    def test_lines_that_cannot_stand_where_they_stand(self):
        self.refused(BadBank, 1, Bank, LINES[2])
        self.refused(BadBank, 1, Bank, '\n'.join(LINES[2:] + LINES[:2]))
        self.refused(BadBank, 4, Bank, '\n'.join(LINES[:3] + ['branch south 1'] + LINES[3:]))
        self.refused(BadBank, 6, Bank, TEXT + '\n')
        self.refused(BadBank, 6, Bank, TEXT + '\n\n')
        self.refused(BadBank, 1, Bank, '\n' + TEXT)
        self.refused(BadBank, 1, Bank, '')
        many = ['branch ' + name + ' 1' for name in 'abcdefg']
        self.assertEqual(len(Bank('\n'.join(many[:6])).branches), 6)
        self.refused(BadBank, 7, Bank, '\n'.join(many))
        text = bank_text(SIX, SIXTY)
        self.assertEqual(len(Bank(text).accounts), 60)
        self.refused(BadBank, 67, Bank, text + '\naccount a.more 0 0')
        self.refused(BadBank, 3, Bank, '\n'.join(LINES[:2] + ['account', 'account', '']))

    def test_equality(self):
        bank = Bank(TEXT)
        self.assertTrue(bank == Bank(TEXT) and not bank != Bank(TEXT))
        other = Bank('\n'.join(LINES[1::-1] + LINES[2:]))
        self.assertTrue(bank != other and not bank == other)
        self.assertFalse(Bank('branch a 1') == Bank('branch a 2'))
        for value in odd_values() + [TEXT, (BRANCHES, ACCOUNTS), Shelf(()), Batch(bank, 'batch 1 east 0 0')]:
            self.assertIs(bank == value, False)
            self.assertIs(value == bank, False)
            self.assertIs(bank != value, True)


class OfBankText(Raising):

    def test_there_and_back(self):
        for branches, accounts in ((BRANCHES, ACCOUNTS), (BRANCHES, ()), (SIX, SIXTY), (SIX[:1], ())):
            bank = Bank(bank_text(branches, accounts))
            self.assertEqual(bank_text(bank.branches, bank.accounts), bank.text)

    def test_bad_branches(self):
        good = ('east', 2)
        for value in odd_values() + [
                (), [good], (list(good),), (good, good), (good, ('east', 3)), (good, ('west',)), (good, ('west', 1, 1)),
                (good, ('West', 1)), (good, ('west', -1)), (good, ('west', 51)), (good, ('west', True)), (good, ('west', '1')),
                (good, (1, 1)), (good, (None, 1)), (good, (['west'], 1)), (good, None), (None, good), (1, good),
                (good, ('abcdefghi', 1)), (good, ('', 1)), SIX + (('g', 1),), (('a.b', 1),), (('a', None),)]:
            if not same(value, (('a', 1),)):
                self.refused(BadBranches, value, bank_text, value, ())
                self.refused(BadBranches, value, bank_text, value, None)

    def test_bad_accounts(self):
        good = ACCOUNTS[0]
        for value in odd_values() + [
                [good], (list(good),), (good, good), (good, ('east.ann', 1, 1)), (good, ('east.x', 1)), (good, None),
                (None, good), (good, ('east.x', 1, 1, 1)), (good, ('south.x', 1, 1)), (good, ('east', 1, 1)),
                (good, ('east.x', True, 1)), (good, ('east.x', 1, True)), (good, ('east.x', 1, -1)), (good, ('east.x', -2, 1)),
                (good, ('east.x', '1', 1)), (good, ('east.x', 1, '1')), (good, ('east.x', 1, None)), (good, (1, 1, 1)),
                (good, ('east.x', MOST + 1, 1)), (good, ('east.x', 1, MOST + 1)), (good, ('east.x', -MOST - 1, MOST)),
                (good, (('east', 'x'), 1, 1)), (good, ('east.', 1, 1)), (good, ('east.x.y', 1, 1)), (good, (['east.x'], 1, 1))]:
            if not same(value, ()):
                self.refused(BadAccounts, value, bank_text, BRANCHES, value)
        self.refused(BadAccounts, SIXTY + (('a.more', 0, 0),), bank_text, SIX, SIXTY + (('a.more', 0, 0),))
        self.assertEqual(len(Bank(bank_text(BRANCHES, (('east.x', -1, 1), ('west.x', 0, 0)))).accounts), 2)


class OfAccounts(Raising):

    def test_branch_of(self):
        for account, branch in (('east.ann', 'east'), ('a.b', 'a'), ('abcdefgh.ijklmnop', 'abcdefgh'), ('x.x', 'x')):
            self.assertEqual(branch_of(account), branch)
        for value in odd_values() + ['east', 'east.', '.ann', '.', '..', 'a.b.c', 'East.ann', 'east.Ann', 'east ann',
                                     'east.abcdefghi', 'abcdefghi.ann', ' a.b', 'a.b ', 'a.b\n', 'a.b1', ('a', 'b'), ['a.b']]:
            if value != 'a.b' or isinstance(value, list):
                self.refused(BadAccount, value, branch_of, value)

    def test_accounts_of(self):
        bank = Bank(TEXT)
        self.assertEqual(accounts_of(bank, 'east'), ('east.ann', 'east.bob'))
        self.assertEqual(accounts_of(bank, 'west'), ('west.cid',))
        self.assertEqual(accounts_of(Bank('branch b 1\nbranch a 1\naccount b.z 0 0\naccount b.y 0 0'), 'b'), ('b.z', 'b.y'))
        self.assertEqual(accounts_of(Bank('branch b 1\nbranch ab 1\naccount ab.z 0 0'), 'b'), ())
        for value in odd_values() + ['south', 'eas', 'east.ann', 'EAST', ('east',), ['east'], ('east', 2)]:
            self.refused(NoBranch, value, accounts_of, bank, value)


class OfEntries(Raising):

    def test_is_entry(self):
        bank = Bank(TEXT)
        for value in (('east.ann', 'east.bob', 1), ('east.bob', 'east.ann', 10 ** 12), ('west.cid', 'east.ann', 500),
                      ('east.ann', 'west.cid', 10 ** 12)):
            self.assertIs(is_entry(bank, value), True)
        for value in odd_values() + [
                ('east.ann', 'east.ann', 1), ('east.ann', 'east.bob', 0), ('east.ann', 'east.bob', -1),
                ('east.ann', 'east.bob', 10 ** 12 + 1), ('east.ann', 'east.bob', True), ('east.ann', 'east.bob', '1'),
                ('east.ann', 'east.bob', None), ('east.ann', 'east.bob'), ('east.ann', 'east.bob', 1, 1),
                ['east.ann', 'east.bob', 1], ('east.ann', 'east.x', 1), ('east.x', 'east.ann', 1), ('ann', 'bob', 1),
                ('east', 'west', 1), (None, 'east.bob', 1), ('east.ann', ['east.bob'], 1), (['east.ann'], 'east.bob', 1),
                ('east.ann', ('east.bob',), 1), ('east.ann', {}, 1), (0, 1, 1), ('east.ann', 0, 1)]:
            self.assertIs(is_entry(bank, value), False, repr(value))
