from oncebooked.branch import Branch, lies_there, new_branch
from oncebooked.entries import Bank, bank_text, batch_text
from oncebooked.errors import BadBatch, BadLetters, BadNumber, BadNumbers, Differs, Early, NoBranch, Stranger
from oncebooked.errors import TooEarly, Unlike
from oncebooked.plainly import plain_row
from oncebooked.shelves import pending, Shelf
from tests.nights import stand
from tests.test_plainly import NO_NAMES
from tests.test_shelves import Raising
from tests.values import odd_values, same

TEXT = ('branch east 2\nbranch west 1\nbranch lone 1\naccount east.ann 50 0\naccount west.cid 7 0\naccount east.bob 0 20\n'
        'account west.dan 0 0')
BANK = Bank(TEXT)
ONE = batch_text(BANK, 1, 'east', (('east.ann', 'west.cid', 30), ('east.ann', 'east.bob', 40), ('east.bob', 'west.dan', 20)))
TWO = batch_text(BANK, 2, 'east', (('east.ann', 'west.cid', 20),))
LIKE_ONE = batch_text(BANK, 1, 'east', (('east.ann', 'west.cid', 30),))
OTHER = batch_text(BANK, 1, 'west', (('west.cid', 'east.ann', 7),))
ROW = (('booked', 'east.ann', 'west.cid', 30), ('bounced', 'east.ann', 'east.bob', 40), ('booked', 'east.bob', 'west.dan', 20),
       ('booked', 'east.ann', 'west.cid', 20))
LETTERS = ((1, 'west.cid', 30), (2, 'west.dan', 20), (3, 'west.cid', 20))


def made(name, bank=BANK):
    """(shelf, branch) of a new branch."""
    shelf = Shelf(())
    new_branch(shelf, bank, name)
    return shelf, Branch(shelf)


class OfBranches(Raising):

    def unchanged(self, shelf, function, *arguments):
        """Calls the function, which is to do no deeds; what it returns."""
        files, log = shelf.files, shelf.log
        told = function(*arguments)
        self.assertEqual((shelf.files, shelf.log), (files, log))
        return told

    def refused_unchanged(self, shelf, error, value, function, *arguments):
        files, log = shelf.files, shelf.log
        self.refused(error, value, function, *arguments)
        self.assertEqual((shelf.files, shelf.log), (files, log))

    def synced(self, shelf):
        self.assertEqual(pending((), shelf.log), ())


class OfNewBranches(OfBranches):

    def test_ordinary(self):
        shelf = Shelf(())
        self.assertIs(lies_there(shelf), False)
        self.assertEqual(shelf.log, ())
        self.assertIsNone(new_branch(shelf, BANK, 'east'))
        self.synced(shelf)
        self.assertIs(self.unchanged(shelf, lies_there, shelf), True)
        self.assertIsNone(self.unchanged(shelf, new_branch, shelf, BANK, 'east'))
        self.assertIsNone(self.unchanged(shelf, new_branch, shelf, Bank(TEXT), 'east'))
        branch = self.unchanged(shelf, Branch, shelf)
        self.assertTrue(branch.bank == BANK)
        told = (branch.name, branch.taken, branch.row, branch.posted, branch.balances, branch.is_credited)
        self.assertTrue(same(told, ('east', 0, (), 0, (('east.ann', 50), ('east.bob', 0)), False)))
        self.assertEqual((branch.heard('west'), branch.letters_to('west', 0), branch.heard('lone')), (0, (), 0))

    def test_no_branch(self):
        shelf, _ = made('west')
        for value in NO_NAMES:
            self.refused_unchanged(shelf, NoBranch, value, new_branch, shelf, BANK, value)
        self.refused(NoBranch, 'north', new_branch, Shelf(()), BANK, 'north')

    def test_unlike(self):
        shelf, branch = made('west')
        branch.take(OTHER)
        for bank, name in ((BANK, 'east'), (Bank(TEXT + '\naccount lone.x 0 0'), 'west'), (Bank('branch west 1'), 'west'),
                           (Bank(TEXT.replace('cid 7', 'cid 8')), 'west'), (Bank(TEXT.replace('west 1', 'west 2')), 'west')):
            self.refused_unchanged(shelf, Unlike, None, new_branch, shelf, bank, name)
        self.unchanged(shelf, new_branch, shelf, BANK, 'west')
        self.assertEqual(Branch(shelf).taken, 1)

    def test_nothing_lies_on_an_empty_shelf(self):
        shelf = Shelf(())
        self.refused_unchanged(shelf, NoBranch, None, Branch, shelf)

    def test_greatest_bank(self):
        names = ('aaaaaaaa', 'bbbbbbbb', 'cccccccc', 'dddddddd', 'eeeeeeee', 'ffffffff')
        accounts = tuple((f'{names[at]}.{one}{other}{"z" * 6}', -10 ** 15, 10 ** 15) for at in range(6)
                         for one in 'abcdefghij' for other in 'x')
        bank = Bank(bank_text(tuple((name, 50) for name in names), accounts))
        _, branch = made('ffffffff', bank)
        self.assertTrue(branch.bank == bank)
        self.assertEqual(branch.balances, tuple(row[:2] for row in accounts[50:]))


class OfTake(OfBranches):

    def test_ordinary(self):
        shelf, branch = made('east')
        self.assertIsNone(branch.take(ONE))
        self.synced(shelf)
        self.assertEqual((branch.taken, branch.posted, branch.row), (1, 0, ()))
        self.assertIsNone(self.unchanged(shelf, branch.take, ONE))
        branch.take(TWO)
        self.synced(shelf)
        self.unchanged(shelf, branch.take, ONE)
        self.unchanged(shelf, branch.take, TWO)
        self.assertEqual((branch.taken, Branch(Shelf(shelf.files)).taken), (2, 2))

    def test_empty_batches(self):
        shelf, branch = made('lone')
        branch.take('batch 1 lone 0 0')
        self.assertEqual((branch.taken, branch.post(9), branch.row, Branch(shelf).taken), (1, 0, (), 1))

    def test_bad_batches_come_first(self):
        shelf, branch = made('east')
        for value in odd_values():
            self.refused_unchanged(shelf, BadBatch, 1 if isinstance(value, str) else 0, branch.take, value)
        self.refused_unchanged(shelf, BadBatch, 4, branch.take, '\n'.join(ONE.split('\n')[:3]))
        self.refused_unchanged(shelf, BadBatch, 5, branch.take, ONE + '\n')
        self.refused_unchanged(shelf, BadBatch, 3, branch.take, OTHER + '\n')
        self.refused_unchanged(shelf, BadBatch, 3, branch.take, TWO + '\n')

    def test_strangers_come_next(self):
        shelf, branch = made('lone')
        self.refused_unchanged(shelf, Stranger, 'west', branch.take, OTHER)
        self.refused_unchanged(shelf, Stranger, 'east', branch.take, ONE)
        self.refused_unchanged(shelf, Stranger, 'east', branch.take, TWO)
        shelf, branch = made('east')
        branch.take(ONE)
        self.refused_unchanged(shelf, Stranger, 'west', branch.take, OTHER)

    def test_early(self):
        bank = Bank('branch a 50\naccount a.x 0 0\naccount a.y 0 0')
        texts = [batch_text(bank, number, 'a', (('a.x', 'a.y', number),)) for number in range(1, 51)]
        shelf, branch = made('a', bank)
        for number in range(1, 51):
            for later in range(number + 1, 51, 7):
                self.refused_unchanged(shelf, Early, later, branch.take, texts[later - 1])
            branch.take(texts[number - 1])
        self.assertEqual((branch.taken, branch.post(100)), (50, 50))

    def test_differs(self):
        shelf, branch = made('east')
        branch.take(ONE)
        self.refused_unchanged(shelf, Differs, 1, branch.take, LIKE_ONE)
        branch.take(TWO)
        branch.post(4)
        self.refused_unchanged(shelf, Differs, 1, branch.take, LIKE_ONE)
        self.refused_unchanged(shelf, Differs, 2, branch.take, TWO.replace('20', '21'))
        self.refused_unchanged(shelf, Differs, 2, Branch(shelf).take, 'batch 2 east 0 0')


class OfPost(OfBranches):

    def test_ordinary(self):
        shelf, branch = made('east')
        self.assertEqual(self.unchanged(shelf, branch.post, 5), 0)
        branch.take(ONE)
        self.assertEqual(self.unchanged(shelf, branch.post, 0), 0)
        self.assertEqual((branch.post(1), branch.posted, branch.row), (1, 1, ROW[:1]))
        self.synced(shelf)
        self.assertEqual(branch.balances, (('east.ann', 20), ('east.bob', 0)))
        self.assertEqual(self.unchanged(shelf, branch.post, 1), 1)
        self.assertEqual(self.unchanged(shelf, branch.post, 0), 1)
        self.assertEqual((branch.post(10 ** 6), branch.row), (3, ROW[:3]))
        self.assertEqual(self.unchanged(shelf, branch.post, 4), 3)
        branch.take(TWO)
        self.assertEqual(branch.posted, 3)
        self.assertEqual((branch.post(4), branch.row, branch.balances), (4, ROW, (('east.ann', 0), ('east.bob', -20))))
        self.assertEqual(plain_row(BANK, 'east', (ONE, TWO)), branch.row)

    def test_bad_numbers(self):
        shelf, branch = made('east')
        branch.take(ONE)
        for value in odd_values() + [10 ** 6 + 1, -1, '1', (1,), [1]]:
            if not same(value, 0) and not same(value, 1):
                self.refused_unchanged(shelf, BadNumber, value, branch.post, value)


class OfLetters(OfBranches):

    def test_letters_to(self):
        shelf, branch = made('east')
        branch.take(ONE)
        self.assertEqual(branch.letters_to('west', 0), ())
        branch.post(1)
        self.assertTrue(same(branch.letters_to('west', 0), LETTERS[:1]))
        branch.take(TWO)
        branch.post(4)
        for after in range(5):
            self.assertEqual(self.unchanged(shelf, branch.letters_to, 'west', after), LETTERS[after:])
        self.assertEqual((branch.letters_to('west', 10 ** 6), branch.letters_to('lone', 0)), ((), ()))

    def test_hear(self):
        shelf, branch = made('west')
        self.assertEqual(self.unchanged(shelf, branch.hear, 'east', ()), 0)
        self.assertEqual(self.unchanged(shelf, branch.hear, 'east', LETTERS[1:]), 0)
        self.assertEqual((branch.hear('east', LETTERS[:1] * 2), branch.heard('east')), (1, 1))
        self.synced(shelf)
        self.assertEqual(self.unchanged(shelf, branch.hear, 'east', LETTERS[:1]), 1)
        self.assertEqual(branch.hear('east', (LETTERS[2], LETTERS[1], LETTERS[0], LETTERS[2], LETTERS[1])), 3)
        self.assertEqual(self.unchanged(shelf, branch.heard, 'east'), 3)
        self.assertEqual(branch.hear('lone', ((1, 'west.cid', 5), (3, 'west.cid', 5), (1, 'west.dan', 6))), 1)
        self.assertEqual((branch.heard('east'), branch.heard('lone')), (3, 1))
        self.assertEqual(branch.balances, (('west.cid', 7), ('west.dan', 0)))
        branch.take(OTHER)
        branch.post(1)
        branch.credit((('east', 3), ('lone', 1)))
        self.assertEqual(branch.balances, (('west.cid', 55), ('west.dan', 20)))

    def test_none_is_heard_behind_credit(self):
        shelf, branch = made('lone', Bank('branch lone 0\nbranch a 1\naccount lone.x 0 0\naccount a.y 9 0'))
        branch.hear('a', ((1, 'lone.x', 5),))
        branch.credit((('a', 1),))
        self.assertEqual(self.unchanged(shelf, branch.hear, 'a', ((2, 'lone.x', 3),)), 1)
        self.assertEqual((branch.heard('a'), branch.balances), (1, (('lone.x', 5),)))
        self.assertEqual(Branch(shelf).hear('a', ((2, 'lone.x', 3),)), 1)

    def test_great_numbers_of_letters(self):
        bank = Bank('branch a 0\nbranch b 1\naccount a.x 0 0')
        shelf, branch = made('a', bank)
        for first in range(1, 10 ** 6, 250000):
            for begin in range(first, first + 250000, 2500):
                branch.hear('b', tuple((number, 'a.x', 10 ** 12) for number in range(begin, begin + 2500)))
            shelf = Shelf(shelf.files)
            branch = Branch(shelf)
        self.assertEqual(branch.heard('b'), 10 ** 6)
        self.assertEqual(self.unchanged(shelf, branch.hear, 'b', ((10 ** 6, 'a.x', 1),)), 10 ** 6)
        self.assertEqual((branch.credit((('b', 10 ** 6),)), branch.balances), (None, (('a.x', 10 ** 18),)))

    def test_no_branch_comes_first(self):
        shelf, branch = made('west')
        for value in NO_NAMES + ['west']:
            self.refused_unchanged(shelf, NoBranch, value, branch.letters_to, value, None)
            self.refused_unchanged(shelf, NoBranch, value, branch.letters_to, value, 0)
            self.refused_unchanged(shelf, NoBranch, value, branch.hear, value, None)
            self.refused_unchanged(shelf, NoBranch, value, branch.hear, value, ())
            self.refused_unchanged(shelf, NoBranch, value, branch.heard, value)

    def test_bad_numbers(self):
        _, branch = made('west')
        for value in odd_values() + [10 ** 6 + 1, '0', (0,)]:
            if not same(value, 0) and not same(value, 1):
                self.refused(BadNumber, value, branch.letters_to, 'east', value)

    def test_bad_letters(self):
        shelf, branch = made('west')
        good = LETTERS[0]
        for value in odd_values() + [list(LETTERS), [good]]:
            if not isinstance(value, tuple):
                self.refused_unchanged(shelf, BadLetters, None, branch.hear, 'east', value)
            elif value != ():
                self.refused_unchanged(shelf, BadLetters, 0, branch.hear, 'east', value)
        self.refused_unchanged(shelf, BadLetters, 0, branch.hear, 'east', good)
        for wrong in (None, 1, list(good), good[:2], good + (1,), (0,) + good[1:], (-1,) + good[1:], (True,) + good[1:],
                      (10 ** 6 + 1,) + good[1:], ('1',) + good[1:], (2, 'east.ann', 1), (2, 'west.x', 1), (2, 'west', 1),
                      (2, None, 1), (2, ['west.cid'], 1), (2, ('west.cid',), 1), (2, 'west.cid', 0), (2, 'west.cid', True),
                      (2, 'west.cid', 10 ** 12 + 1), (2, 'west.cid', '1'), (2, 'west.cid', None)):
            self.refused_unchanged(shelf, BadLetters, 1, branch.hear, 'east', (good, wrong, None))
            self.refused_unchanged(shelf, BadLetters, 0, branch.hear, 'east', (wrong,))
        self.assertEqual(branch.heard('east'), 0)

    def test_number_of_letters(self):
        shelf, branch = made('west')
        self.refused_unchanged(shelf, BadLetters, None, branch.hear, 'east', LETTERS[:1] * 2501)
        self.refused_unchanged(shelf, BadLetters, None, branch.hear, 'east', (None,) * 2501)
        self.refused_unchanged(shelf, BadLetters, 2499, branch.hear, 'east', LETTERS[:1] * 2499 + (None,))
        self.assertEqual(branch.hear('east', LETTERS[:1] * 2500), 1)
        shelf, branch = made('lone')
        self.refused_unchanged(shelf, BadLetters, 0, branch.hear, 'east', LETTERS)


class OfCredit(OfBranches):

    def ready(self):
        shelf, branch = made('east')
        branch.take(ONE)
        branch.take(TWO)
        branch.post(4)
        branch.hear('west', ((1, 'east.ann', 7),))
        return shelf, branch

    def test_ordinary(self):
        shelf, branch = self.ready()
        self.assertEqual((branch.is_credited, branch.balances), (False, (('east.ann', 0), ('east.bob', -20))))
        self.assertIsNone(branch.credit((('west', 1), ('lone', 0))))
        self.synced(shelf)
        for told in (branch, Branch(shelf), Branch(Shelf(shelf.files))):
            self.assertTrue(same((told.is_credited, told.balances, told.row),
                                 (True, (('east.ann', 7), ('east.bob', -20)), ROW)))

    def test_credited_once(self):
        shelf, branch = self.ready()
        branch.credit((('west', 1), ('lone', 0)))
        for numbers in ((('west', 1), ('lone', 0)), (('west', 0), ('lone', 10 ** 6))):
            self.assertIsNone(self.unchanged(shelf, branch.credit, numbers))
            self.assertIsNone(self.unchanged(shelf, Branch(shelf).credit, numbers))
        self.assertEqual(self.unchanged(shelf, branch.post, 9), 4)
        self.unchanged(shelf, branch.take, TWO)
        self.assertEqual((branch.balances, branch.is_credited), ((('east.ann', 7), ('east.bob', -20)), True))

    def test_alone(self):
        _, branch = made('a', Bank('branch a 0\naccount a.x 3 0'))
        self.assertEqual((branch.credit(()), branch.is_credited, branch.balances), (None, True, (('a.x', 3),)))

    def test_bad_numbers_come_first(self):
        shelf, branch = made('east')
        good = (('west', 1), ('lone', 0))
        wrong = odd_values() + [
            list(good), good[:1], good[::-1], good + (('east', 0),), (('east', 0),) + good, ((1, 'west'), good[1]),
            (['west', 1], good[1]), (('west', -1), good[1]), (('west', True), good[1]), (('west', 10 ** 6 + 1), good[1]),
            (('west', '1'), good[1]), (('west', None), good[1]), (('west',), good[1]), (('west', 1, 1), good[1]),
            (good[0], None), (good[0], good[0]), (good[0], ('east', 0)), (good[0], (None, 0)), (good[0], ('lone', [0]))]
        for value in wrong:
            self.refused_unchanged(shelf, BadNumbers, value, branch.credit, value)
        shelf, branch = self.ready()
        branch.credit(good)
        for value in wrong:
            self.refused_unchanged(shelf, BadNumbers, value, branch.credit, value)

    def test_too_early_by_its_own_batches(self):
        shelf, branch = made('east')
        numbers = (('west', 5), ('lone', 6))
        self.refused_unchanged(shelf, TooEarly, 'east', branch.credit, numbers)
        branch.take(ONE)
        branch.post(3)
        self.refused_unchanged(shelf, TooEarly, 'east', branch.credit, (('west', 0), ('lone', 0)))
        branch.take(TWO)
        self.refused_unchanged(shelf, TooEarly, 'east', branch.credit, numbers)
        branch.post(4)
        self.refused_unchanged(shelf, TooEarly, 'west', branch.credit, numbers)

    def test_too_early_though_no_entry_is_lacking(self):
        shelf, branch = made('lone')
        self.refused_unchanged(shelf, TooEarly, 'lone', branch.credit, (('east', 0), ('west', 0)))
        branch.take('batch 1 lone 0 0')
        self.assertIsNone(branch.credit((('east', 0), ('west', 0))))

    def test_too_early_by_letters(self):
        shelf, branch = self.ready()
        for numbers, other in (((('west', 0), ('lone', 0)), 'west'), ((('west', 2), ('lone', 1)), 'west'),
                               ((('west', 1), ('lone', 1)), 'lone'), ((('west', 1), ('lone', 10 ** 6)), 'lone')):
            self.refused_unchanged(shelf, TooEarly, other, branch.credit, numbers)
        self.assertIs(branch.is_credited, False)
        branch.credit((('west', 1), ('lone', 0)))


class OfLookingUp(OfBranches):

    def test_looked_up_anew_it_stands_alike_and_goes_on(self):
        shelf, branch = made('east')
        for call in (('take', ONE), ('post', 2), ('hear', 'west', ((1, 'east.bob', 7),)), ('take', TWO), ('post', 4),
                     ('credit', (('west', 1), ('lone', 0)))):
            twin = Shelf(shelf.files)
            self.assertTrue(same(stand(Branch(twin), ['west', 'lone']), stand(branch, ['west', 'lone'])))
            self.assertEqual(getattr(Branch(twin), call[0])(*call[1:]), getattr(branch, call[0])(*call[1:]))
            self.assertEqual(twin.files, shelf.files)
        self.assertEqual(branch.balances, (('east.ann', 0), ('east.bob', -13)))

    def test_greatest_branch(self):
        bank = Bank('branch a 50\nbranch b 0\naccount a.x 1000000000000000 1000000000000000\naccount b.y 0 0')
        shelf, branch = made('a', bank)
        texts = [batch_text(bank, number, 'a', (('a.x', 'b.y', 10 ** 12),) * 50) for number in range(1, 51)]
        for text in texts:
            branch.take(text)
        self.assertEqual(branch.post(10 ** 6), 2500)
        later = Branch(Shelf(shelf.files))
        self.assertEqual((later.row, later.balances), (plain_row(bank, 'a', tuple(texts)), (('a.x', -10 ** 15),)))
        self.assertEqual((len(later.letters_to('b', 0)), later.letters_to('b', 1999)), (2000, ((2000, 'b.y', 10 ** 12),)))
