import inspect
import unittest

from oncebooked import branch, entries, interest, night, plainly, shelves
from oncebooked.entries import accounts_of, Bank, bank_text, Batch, batch_text, branch_of, is_entry
from oncebooked.interest import Accrual
from oncebooked.night import Run
from oncebooked.shelves import Shelf

FUNCTIONS = {
    shelves: {
        'is_line': ['value'], 'is_deed': ['value'], 'are_files': ['value'],
        'done_deeds': ['files', 'deeds'], 'pending': ['files', 'deeds'],
        'left_by': ['files', 'deeds', 'choices'], 'cuts_many': ['files', 'deeds'],
        'nth_left': ['files', 'deeds', 'number'], 'all_left': ['files', 'deeds'],
        'is_left': ['files', 'deeds', 'value'], 'choices_for': ['files', 'deeds', 'value'],
    },
    entries: {
        'bank_text': ['branches', 'accounts'], 'branch_of': ['account'], 'accounts_of': ['bank', 'name'],
        'is_entry': ['bank', 'value'], 'batch_text': ['bank', 'number', 'name', 'entries'],
    },
    plainly: {
        'plain_row': ['bank', 'name', 'texts'], 'letters_in': ['bank', 'name', 'row', 'other'],
        'balances_behind': ['bank', 'name', 'row'], 'plain_night': ['bank', 'night'],
        'plain_balances': ['bank', 'night'], 'least_limits': ['bank', 'name', 'texts'],
    },
    branch: {'new_branch': ['shelf', 'bank', 'name'], 'lies_there': ['shelf']},
    night: {
        'balances_of': ['run'], 'on_the_way': ['run'], 'missing': ['run'], 'left_over': ['run'], 'left_to_do': ['run'],
        'is_dawn': ['run'], 'run_through': ['bank', 'night', 'calls'],
    },
    interest: {
        'parts_of': ['stretches'], 'true_interest': ['stretches'], 'daily': ['stretches', 'rest'],
        'first_day': ['balance', 'rate', 'year', 'rest', 'units'], 'split': ['amount', 'weights'],
        'value_at': ['table', 'day'], 'stretches_of': ['balances', 'rates', 'years', 'begin', 'end'],
        'paid_in': ['balances', 'rates', 'years', 'ends', 'rest'],
    },
}
CLASSES = {
    shelves: {'Shelf': (['files'], {'read': ['file'], 'add': ['file', 'line'], 'lay': ['file', 'lines'],
                                    'sync': [], 'copy': []})},
    entries: {'Bank': (['text'], {}), 'Batch': (['bank', 'text'], {})},
    branch: {'Branch': (['shelf'], {'take': ['text'], 'post': ['upto'], 'letters_to': ['other', 'after'],
                                    'hear': ['other', 'letters'], 'heard': ['other'], 'credit': ['numbers']})},
    night: {'Run': (['bank', 'night'], {'go_on': ['call'], 'shelf_of': ['name'], 'branch_at': ['name'], 'copy': []})},
    interest: {'Accrual': (['rest'], {'go_on': ['stretch'], 'close': [], 'copy': []})},
}
TEXT = 'branch a 1\nbranch b 0\naccount a.x 5 0\naccount b.y 0 0'


def parameters(function):
    return list(inspect.signature(function).parameters)


class Interface(unittest.TestCase):

    def test_functions_stand_in_their_files_with_their_parameters(self):
        for module, functions in FUNCTIONS.items():
            for name, expected in functions.items():
                function = getattr(module, name)
                self.assertTrue(inspect.isfunction(function), name)
                self.assertEqual(function.__module__, module.__name__)
                self.assertEqual(parameters(function), expected, name)

    def test_classes_stand_in_their_files_with_their_methods(self):
        for module, classes in CLASSES.items():
            for name, (expected, methods) in classes.items():
                made = getattr(module, name)
                self.assertTrue(inspect.isclass(made), name)
                self.assertEqual(made.__module__, module.__name__)
                self.assertEqual(parameters(made), expected, name)
                for method, more in methods.items():
                    self.assertIn(method, vars(made))
                    self.assertEqual(parameters(vars(made)[method]), ['self'] + more)

    def test_attributes_are_there_from_the_first(self):
        bank = Bank('branch a 1')
        run = Run(bank, (('batch 1 a 0 0',),))
        for made, names in ((Shelf(()), ('files', 'log')), (bank, ('text', 'branches', 'accounts')),
                            (Batch(bank, 'batch 1 a 0 0'), ('bank', 'text', 'number', 'branch', 'entries')),
                            (run.branch_at('a'), ('bank', 'name', 'taken', 'row', 'posted', 'balances', 'is_credited')),
                            (run, ('bank', 'night', 'cuts')), (Accrual(0), ('rest', 'paid', 'days'))):
            for name in names:
                self.assertTrue(hasattr(made, name), name)

    def test_arguments_by_name(self):
        shelf = Shelf(files=())
        self.assertIsNone(shelf.lay(file='a', lines=('x',)))
        self.assertIsNone(shelf.add(file='a', line='y'))
        self.assertEqual(shelf.read(file='a'), ('x', 'y'))
        deeds = (('add', 'a', 'x'),)
        self.assertTrue(shelves.is_line(value='x') and shelves.is_deed(value=deeds[0]) and shelves.are_files(value=()))
        self.assertEqual(shelves.done_deeds(deeds=deeds, files=()), (('a', ('x',)),))
        self.assertEqual(shelves.pending(deeds=deeds, files=()), (('a', 1),))
        self.assertEqual(shelves.left_by(choices=((0, -1),), deeds=deeds, files=()), ())
        self.assertEqual(shelves.cuts_many(deeds=deeds, files=()), 3)
        self.assertEqual(shelves.nth_left(number=1, deeds=deeds, files=()), (('a', ('',)),))
        self.assertEqual(len(shelves.all_left(deeds=deeds, files=())), 3)
        self.assertTrue(shelves.is_left(value=(), deeds=deeds, files=()))
        self.assertEqual(shelves.choices_for(value=(), deeds=deeds, files=()), ((0, -1),))
        bank = Bank(text='branch a 1\naccount a.x 0 0\naccount a.y 0 0')
        self.assertEqual(bank_text(accounts=bank.accounts, branches=bank.branches), bank.text)
        self.assertEqual(branch_of(account='a.x'), 'a')
        self.assertEqual(accounts_of(name='a', bank=bank), ('a.x', 'a.y'))
        self.assertTrue(is_entry(value=('a.x', 'a.y', 1), bank=bank))
        text = batch_text(entries=(), name='a', number=1, bank=bank)
        self.assertEqual(Batch(text=text, bank=bank).text, text)

    def test_arguments_by_name_of_plainly(self):
        bank = Bank(TEXT)
        texts = (batch_text(bank, 1, 'a', (('a.x', 'b.y', 2),)),)
        row = plainly.plain_row(texts=texts, name='a', bank=bank)
        self.assertEqual(row, (('booked', 'a.x', 'b.y', 2),))
        self.assertEqual(plainly.letters_in(other='b', row=row, name='a', bank=bank), ((1, 'b.y', 2),))
        self.assertEqual(plainly.balances_behind(row=row, name='a', bank=bank), (('a.x', 3),))
        self.assertEqual(plainly.plain_night(night=(texts, ()), bank=bank), (row, ()))
        self.assertEqual(plainly.plain_balances(night=(texts, ()), bank=bank), (('a.x', 3), ('b.y', 2)))
        self.assertEqual(plainly.least_limits(texts=texts, name='a', bank=bank), (('a.x', 0),))

    def test_arguments_by_name_of_branches_and_nights(self):
        bank = Bank(TEXT)
        text = batch_text(bank, 1, 'a', (('a.x', 'b.y', 2),))
        shelf = Shelf(())
        self.assertIsNone(branch.new_branch(name='a', bank=bank, shelf=shelf))
        self.assertTrue(branch.lies_there(shelf=shelf))
        one = branch.Branch(shelf=shelf)
        self.assertEqual((one.take(text=text), one.post(upto=1)), (None, 1))
        self.assertEqual(one.letters_to(after=0, other='b'), ((1, 'b.y', 2),))
        self.assertEqual((one.hear(letters=((1, 'a.x', 4),), other='b'), one.heard(other='b')), (1, 1))
        self.assertEqual((one.credit(numbers=(('b', 1),)), one.balances), (None, (('a.x', 7),)))
        run = Run(night=((text,), ()), bank=bank)
        self.assertEqual(run.go_on(call=('take', 'a', 1)), 'done')
        self.assertEqual((run.branch_at(name='a').taken, len(run.shelf_of(name='a').files) > 0), (1, True))
        self.assertEqual((night.balances_of(run=run), night.on_the_way(run=run)), ((('a.x', 5), ('b.y', 0)), ()))
        self.assertEqual((night.missing(run=run), night.left_over(run=run), night.is_dawn(run=run)), (0, 4, False))
        calls = night.left_to_do(run=run)
        self.assertEqual(calls[0], ('post', 'a', 1))
        self.assertEqual(night.left_over(night.run_through(calls=calls, night=((text,), ()), bank=bank)), 5)

    def test_arguments_by_name_of_interest(self):
        year = (365, 1000, 50000, 365)
        self.assertEqual(interest.parts_of(stretches=(year,)), 50 * 133590000000)
        self.assertEqual(interest.true_interest(stretches=(year,)), (50, 1))
        accrual = Accrual(rest=0)
        self.assertEqual((accrual.go_on(stretch=year), accrual.close()), (50, 0))
        self.assertEqual(len(interest.daily(rest=0, stretches=(year,))), 365)
        self.assertEqual(interest.first_day(units=50, rest=0, year=365, rate=50000, balance=1000), 365)
        self.assertEqual(interest.split(weights=(1, 1), amount=5), (2, 3))
        self.assertEqual(interest.value_at(day=3, table=((0, 5),)), 5)
        tables = {'balances': ((0, 1000),), 'rates': ((0, 50000),), 'years': ((0, 365),)}
        self.assertEqual(interest.stretches_of(end=365, begin=0, **tables), (year,))
        self.assertEqual(interest.paid_in(rest=0, ends=(73,), **tables), ((10, 0),))
