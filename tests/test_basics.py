import unittest

from oncebooked.basics import are_ascending, ascends, is_account, is_integer, is_name, is_number, is_row, is_word, number_in
from tests.values import odd_values


class Basics(unittest.TestCase):

    def test_integers(self):
        for value in odd_values():
            self.assertIs(is_integer(value), type(value) is int)
            self.assertIs(is_number(value, 0, 1), type(value) is int and value in (0, 1))

    def test_names(self):
        for value in ('a', 'z', 'abcdefgh', 'zzzzzzzz'):
            self.assertIs(is_name(value), True)
        for value in ('', 'abcdefghi', 'A', 'a1', 'a b', 'a.', '`', '{', '\u00e9', 'a\n', None, 1, ('a',), ['a'], True):
            self.assertIs(is_name(value), False)

    def test_words(self):
        for value in ('a', 'ab', 'zzz'):
            self.assertIs(is_word(value, 3), True)
        for value in ('', 'abcd', 'aB', 'a1', 'a\n', '\u00e9', '\u00aa', 'a ', None, 1, ('a',)):
            self.assertIs(is_word(value, 3), False)

    def test_ascending(self):
        for row in ((), (1,), (1, 2), ['a', 'b', 'c'], ((1, 2), (1, 3))):
            self.assertIs(ascends(row), True)
        for row in ((1, 1), (2, 1), (1, 3, 2), (1, 3, 3), ['b', 'a']):
            self.assertIs(ascends(row), False)
        for value in ((), (0,), (0, 1, 5), (5,)):
            self.assertIs(are_ascending(value, 0, 5), True)
        for value in ([], [1], (6,), (-1,), (1, 1), (2, 1), (True,), ('1',), (0, None), None, 1, {}):
            self.assertIs(are_ascending(value, 0, 5), False)

    def test_accounts(self):
        self.assertIs(is_account('abcdefgh.z'), True)
        for value in ('a', 'a.', '.a', '.', 'a.b.c', 'a.B', '', None, ('a', 'b'), ['a.b']):
            self.assertIs(is_account(value), False)

    def test_rows(self):
        self.assertIs(is_row((1, 2), 2), True)
        for value in ((1,), (1, 2, 3), [1, 2], 'ab', None):
            self.assertIs(is_row(value, 2), False)

    def test_numbers_in_texts(self):
        for word, number in (('0', 0), ('7', 7), ('-7', -7), ('10', 10), ('-10', -10)):
            self.assertEqual(number_in(word, -10, 10), number)
        for word in ('', '-', '--1', '+1', '01', '-0', '00', '-01', '1_0', ' 1', '1 ', '1\n', 'x', '1.0', '\u0661', '\u00b2',
                     '11', '-11', '9' * 5000, '-' + '9' * 5000):
            self.assertIsNone(number_in(word, -10, 10), word)
