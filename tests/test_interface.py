import inspect
import unittest

from oncebooked import entries, shelves
from oncebooked.entries import accounts_of, Bank, bank_text, Batch, batch_text, branch_of, is_entry
from oncebooked.shelves import Shelf

FUNCTIONS = {
    shelves: {
        'is_line': ['value'], 'is_deed': ['value'], 'are_files': ['value'],
        'done_deeds': ['files', 'deeds'], 'pending': ['files', 'deeds'],
        'left_by': ['files', 'deeds', 'choices'], 'cuts_many': ['files', 'deeds'],
        'nth_left': ['files', 'deeds', 'number'], 'all_left': ['files', 'deeds'],
        'is_left': ['files', 'deeds', 'value'], 'choices_for': ['files', 'deeds', 'value'],
    },
    entries: {
        'bank_text': ['branches', 'accounts'], 'branch_of': ['account'], 'accounts_of': ['bank', 'name'],
        'is_entry': ['bank', 'value'], 'batch_text': ['bank', 'number', 'name', 'entries'],
    },
}
CLASSES = {
    shelves: {'Shelf': (['files'], {'read': ['file'], 'add': ['file', 'line'], 'lay': ['file', 'lines'],
                                    'sync': [], 'copy': []})},
    entries: {'Bank': (['text'], {}), 'Batch': (['bank', 'text'], {})},
}


def parameters(function):
    return list(inspect.signature(function).parameters)


class Interface(unittest.TestCase):

    def test_functions_stand_in_their_files_with_their_parameters(self):
        for module, functions in FUNCTIONS.items():
            for name, expected in functions.items():
                function = getattr(module, name)
                self.assertTrue(inspect.isfunction(function), name)
                self.assertEqual(function.__module__, module.__name__)
                self.assertEqual(parameters(function), expected, name)

    def test_classes_stand_in_their_files_with_their_methods(self):
        for module, classes in CLASSES.items():
            for name, (expected, methods) in classes.items():
                made = getattr(module, name)
                self.assertTrue(inspect.isclass(made), name)
                self.assertEqual(made.__module__, module.__name__)
                self.assertEqual(parameters(made), expected, name)
                for method, more in methods.items():
                    self.assertIn(method, vars(made))
                    self.assertEqual(parameters(vars(made)[method]), ['self'] + more)

    def test_attributes_are_there_from_the_first(self):
        bank = Bank('branch a 1')
        for made, names in ((Shelf(()), ('files', 'log')), (bank, ('text', 'branches', 'accounts')),
                            (Batch(bank, 'batch 1 a 0 0'), ('bank', 'text', 'number', 'branch', 'entries'))):
            for name in names:
                self.assertTrue(hasattr(made, name), name)

    def test_arguments_by_name(self):
        shelf = Shelf(files=())
        self.assertIsNone(shelf.lay(file='a', lines=('x',)))
        self.assertIsNone(shelf.add(file='a', line='y'))
        self.assertEqual(shelf.read(file='a'), ('x', 'y'))
        deeds = (('add', 'a', 'x'),)
        self.assertTrue(shelves.is_line(value='x') and shelves.is_deed(value=deeds[0]) and shelves.are_files(value=()))
        self.assertEqual(shelves.done_deeds(deeds=deeds, files=()), (('a', ('x',)),))
        self.assertEqual(shelves.pending(deeds=deeds, files=()), (('a', 1),))
        self.assertEqual(shelves.left_by(choices=((0, -1),), deeds=deeds, files=()), ())
        self.assertEqual(shelves.cuts_many(deeds=deeds, files=()), 3)
        self.assertEqual(shelves.nth_left(number=1, deeds=deeds, files=()), (('a', ('',)),))
        self.assertEqual(len(shelves.all_left(deeds=deeds, files=())), 3)
        self.assertTrue(shelves.is_left(value=(), deeds=deeds, files=()))
        self.assertEqual(shelves.choices_for(value=(), deeds=deeds, files=()), ((0, -1),))
        bank = Bank(text='branch a 1\naccount a.x 0 0\naccount a.y 0 0')
        self.assertEqual(bank_text(accounts=bank.accounts, branches=bank.branches), bank.text)
        self.assertEqual(branch_of(account='a.x'), 'a')
        self.assertEqual(accounts_of(name='a', bank=bank), ('a.x', 'a.y'))
        self.assertTrue(is_entry(value=('a.x', 'a.y', 1), bank=bank))
        text = batch_text(entries=(), name='a', number=1, bank=bank)
        self.assertEqual(Batch(text=text, bank=bank).text, text)
