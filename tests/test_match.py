import collections
import itertools
import random

from oncebooked.errors import BadAmount, BadChanges, BadNotes, TooLong, TooMany
from oncebooked.match import a_lot, corrected, corrections_many, difference, least_corrections, lots_with, near_sums
from oncebooked.match import paired, repeated, shows_corrections, shows_lot, slips_in, slips_of
from tests.test_shelves import Raising
from tests.values import is_climbing, is_int, near_values, odd_values, same

MOST = 10 ** 12
ONE = (('rent', -500), ('pay', 900), ('rent', -500))
OTHER = (('rent', -500), ('pay', 90), ('gift', 20))


def drawn_book(draw, most=5, words='ab', size=2):
    return tuple((draw.choice(words), draw.choice((-1, 1)) * draw.randint(1, size)) for _ in range(draw.randint(0, most)))


def is_note(value):
    if type(value) is not tuple or len(value) != 2 or type(value[0]) is not str or not is_int(value[1], -MOST, MOST):
        return False
    return value[1] != 0 and 1 <= len(value[0]) <= 12 and not value[0].strip('abcdefghijklmnopqrstuvwxyz')


def behind(one, value):
    """The book behind these changes, None if they are none, as section 12 tells it."""
    if type(value) is not tuple:
        return None
    book, added, seen = {at: list(note) for at, note in enumerate(one)}, [], []
    for change in value:
        if type(change) is not tuple or len(change) not in (2, 3) or type(change[0]) is not str:
            return None
        if change[0] == 'add' and len(change) == 2 and is_note(change[1]):
            added.append(change[1])
            continue
        if not is_int(change[1], 0, len(one) - 1) or change[1] in seen:
            return None
        seen.append(change[1])
        if change[0] == 'strike' and len(change) == 2:
            del book[change[1]]
        elif change[0] in ('word', 'amount') and len(change) == 3:
            at = ('word', 'amount').index(change[0])
            if same(book[change[1]][at], change[2]):
                return None
            book[change[1]][at] = change[2]
            if not is_note(tuple(book[change[1]])):
                return None
        else:
            return None
    rows = tuple(map(tuple, book.values())) + tuple(added)
    return rows if len(rows) <= 200 else None


def fewest_changes(one, other):
    """By going through all ways to put notes together."""
    fewest = len(one) + len(other)
    for many in range(1, min(len(one), len(other)) + 1):
        for mine in itertools.combinations(one, many):
            for its in itertools.permutations(other, many):
                shared = [(note[0] == more[0]) + (note[1] == more[1]) for note, more in zip(mine, its)]
                fewest = min(fewest, len(one) + len(other) - sum(shared))
    return fewest


def lots_of(notes):
    return [lot for many in range(len(notes) + 1) for lot in itertools.combinations(range(len(notes)), many)]


def total(notes, lot):
    return sum(notes[at][1] for at in lot)


def slips(amount, its):
    """The table of section 12, figure by figure."""
    found = []
    one, other = str(abs(amount)), str(abs(its))
    if (amount > 0) == (its > 0):
        if len(one) == len(other) and sum(a != b for a, b in zip(one, other)) == 1:
            found.append('digit')
        if one == other + '0' or other == one + '0':
            found.append('shift')
        for at in range(len(one) - 1):
            figures = list(one)
            figures[at], figures[at + 1] = figures[at + 1], figures[at]
            if one[at] != one[at + 1] and ''.join(figures).lstrip('0') == other:
                found.append('swapped')
        if abs(amount) + abs(amount) == abs(its) or abs(its) + abs(its) == abs(amount):
            found.append('twice')
    elif one == other:
        found.append('sign')
    return tuple(sorted(set(found)))


def no_books():
    return [value for value in odd_values() if not same(value, ()) and not same(value, (('a', 1),))] + [
        [('a', 1)], (['a', 1],), (('a', 1, 1),), (('a',),), (('', 1),), (('A', 1),), (('a' * 13, 1),), (('a b', 1),), ((1, 1),),
        ((None, 1),), (('a', 0),), (('a', True),), (('a', '1'),), (('a', None),), (('a', MOST + 1),), (('a', -MOST - 1),),
        (('a', 1), None), (('a', 1),) * 201]


class OfPairs(Raising):

    def test_ordinary(self):
        self.assertTrue(same(paired((), ()), ((), (), ())))
        self.assertTrue(same(paired(ONE, ONE), (((0, 0), (1, 1), (2, 2)), (), ())))
        self.assertTrue(same(paired(ONE, ONE[::-1]), (((0, 0), (1, 1), (2, 2)), (), ())))
        self.assertEqual(paired((('a', 1), ('a', 1), ('b', 1)), (('b', 1), ('a', 2), ('a', 1))), (((0, 2), (2, 0)), (1,), (1,)))
        self.assertTrue(same(difference((('a', 5),), (('b', 7),)), -2))
        self.assertTrue(same(repeated((('b', 1), ('a', 2), ('b', 1), ('a', 2), ('b', 1), ('a', 1))), ((('a', 2), 2), (('b', 1), 3))))
        self.assertEqual(repeated((('a', 3), ('a', -3))), ())

    def test_drawn(self):
        draw = random.Random(71)
        for _ in range(300):
            one, other = drawn_book(draw, 9), drawn_book(draw, 9)
            pairs, mine, its = paired(one, other)
            self.assertEqual(sorted([at for at, _ in pairs] + list(mine)), list(range(len(one))))
            self.assertEqual(sorted([at for _, at in pairs] + list(its)), list(range(len(other))))
            self.assertEqual((list(pairs), list(mine), list(its)), (sorted(pairs), sorted(mine), sorted(its)))
            for at, to in pairs:
                self.assertEqual(one[at], other[to])
                self.assertEqual(one[:at].count(one[at]), other[:to].count(one[at]))
            self.assertFalse({one[at] for at in mine} & {other[at] for at in its})
            self.assertEqual(difference(one, other), total(one, mine) - total(other, its))
            counts = collections.Counter(one)
            self.assertEqual(repeated(one), tuple(sorted((note, many) for note, many in counts.items() if many > 1)))

    def test_errors_in_their_sequence(self):
        for value in no_books():
            for function in (paired, difference, least_corrections, corrections_many, slips_in):
                self.refused(BadNotes, value, function, value, None)
                self.refused(BadNotes, value, function, ONE, value)
            self.refused(BadNotes, value, shows_corrections, value, None, None)
            self.refused(BadNotes, value, shows_corrections, ONE, value, None)
            self.refused(BadNotes, value, repeated, value)
            self.refused(BadNotes, value, corrected, value, None)
            for function in (lots_with, a_lot, near_sums):
                self.refused(BadNotes, value, function, value, None)
            self.refused(BadNotes, value, shows_lot, value, None, None)
        self.assertEqual(len(paired((('a', 1),) * 200, (('a', 1),) * 200)[0]), 200)
        self.assertEqual(difference((('abcdefghijkl', MOST),), (('z', -MOST),)), 2 * MOST)


class OfCorrections(Raising):

    def test_corrected(self):
        self.assertEqual(corrected(ONE, ()), ONE)
        changes = (('add', ('x', 1)), ('word', 2, 'hire'), ('strike', 0), ('add', ('a', 2)), ('amount', 1, -7))
        self.assertEqual(corrected(ONE, changes), (('pay', -7), ('hire', -500), ('x', 1), ('a', 2)))
        full = (('a', 1),) * 200
        self.assertEqual(len(corrected(full, (('add', ('b', 1)), ('strike', 5)))), 200)
        self.refused(BadChanges, (('add', ('b', 1)),), corrected, full, (('add', ('b', 1)),))
        self.assertEqual(corrected((), (('add', ('b', 1)),) * 200), (('b', 1),) * 200)

    def test_bad_changes(self):
        bad = [value for value in odd_values() if not same(value, ())] + [
            [('strike', 0)], (['strike', 0],), (('strike',),), (('strike', 3),), (('strike', -1),), (('strike', True),),
            (('strike', '0'),), (('strike', None),), (('strike', 0, 0),), (('strike', 0), ('strike', 0)),
            (('strike', 0), ('word', 0, 'x')), (('word', 1, 'x'), ('amount', 1, 5)), (('word', 0, 'rent'),), (('word', 0, ''),),
            (('word', 0, 'A'),), (('word', 0, 'a' * 13),), (('word', 0, 1),), (('word', 0),), (('word', 0, 'x', 1),),
            (('amount', 0, -500),), (('amount', 0, 0),), (('amount', 0, MOST + 1),), (('amount', 0, True),), (('amount', 0, '1'),),
            (('amount', 0),), (('add', ('x', 0)),), (('add', ['x', 1]),), (('add', 'x', 1),), (('add',),), (('add', ('x', 1), 1),),
            (('Strike', 0),), (('', 0),), ((None, 0),), (('strike', 0), None), (('add', ('b', 1)),) * 198]
        for value in bad:
            self.refused(BadChanges, value, corrected, ONE, value)
            self.assertIs(shows_corrections(ONE, OTHER, value), False)

    def test_fewest_beside_all_ways_to_put_notes_together(self):
        draw = random.Random(72)
        for _ in range(250):
            one, other = drawn_book(draw, 4, 'abc', 3), drawn_book(draw, 4, 'abc', 3)
            fewest = fewest_changes(one, other)
            told = least_corrections(one, other)
            self.assertTrue(is_int(corrections_many(one, other), fewest, fewest))
            self.assertEqual((len(told), corrections_many(other, one)), (fewest, fewest))
            self.assertEqual(sorted(behind(one, told)), sorted(other))
            self.assertEqual(corrected(one, told), behind(one, told))
            third = drawn_book(draw, 4, 'abc', 3)
            self.assertLessEqual(fewest, corrections_many(one, third) + corrections_many(third, other))
            values = near_values(told)
            for value in [told, told[::-1]] + draw.sample(values, min(40, len(values))) + odd_values():
                book = behind(one, value)
                is_right = book is not None and sorted(book) == sorted(other) and len(value) == fewest
                self.assertIs(shows_corrections(one, other, value), is_right, (one, other, value))

    def test_shows_corrections_of_all_rows_of_changes(self):
        one, other = (('a', 1), ('b', 2)), (('b', 1), ('a', 2))
        words = [('word', at, word) for at in (0, 1) for word in 'abc']
        amounts = [('amount', at, amount) for at in (0, 1) for amount in (1, 2, 3)]
        some = words + amounts + [('strike', 0), ('strike', 1)] + [('add', note) for note in other + one]
        fewest = fewest_changes(one, other)
        self.assertEqual(fewest, 2)
        for many in range(4):
            for value in itertools.product(some, repeat=many):
                book = behind(one, value)
                is_right = book is not None and sorted(book) == sorted(other) and many == 2
                self.assertIs(shows_corrections(one, other, value), is_right, value)

    def test_great_books(self):
        draw = random.Random(73)
        for words, size in (('a', 10 ** 6), ('abcdefgh', 30), ('abcdefghijklmnop', 5)):
            one = tuple((draw.choice(words), draw.randint(1, size)) for _ in range(200))
            other = tuple((draw.choice(words), draw.randint(1, size)) for _ in range(200))
            told = least_corrections(one, other)
            self.assertEqual(sorted(corrected(one, told)), sorted(other))
            self.assertTrue(shows_corrections(one, other, told))
            self.assertEqual(len(told), corrections_many(other, one))
        # Each note but the last one has one its by word and the next one by amount: so the pairs have to give way in a row.
        names = [one + other for one in 'abcdefghijklmno' for other in 'abcdefghijklm']
        one = tuple((names[at], at + 1) for at in range(190))
        other = tuple((names[at + 1], at + 1) for at in range(190))
        self.assertEqual(corrections_many(one, other), 190)
        self.assertEqual(corrections_many(one[1:] + one[:1], other), 190)
        self.assertEqual(corrections_many(one, ()), 190)
        self.assertEqual(corrections_many((), other), 190)


class OfLots(Raising):

    def test_beside_all_lots(self):
        draw = random.Random(74)
        for _ in range(250):
            notes = drawn_book(draw, 7, 'abc', draw.choice((2, 6, 100)))
            amount = draw.choice((0, draw.randint(-6, 6), draw.randint(-60, 60), total(notes, draw.choice(lots_of(notes)))))
            right = sorted(lot for lot in lots_of(notes) if total(notes, lot) == amount)
            self.assertTrue(same(lots_with(notes, amount), tuple(right)))
            others = [lot for lot in right if lot]
            told = a_lot(notes, amount)
            self.assertTrue(told in others if others else told is None)
            sums = [total(notes, lot) for lot in lots_of(notes)]
            near = (max([one for one in sums if one <= amount], default=None),
                    min([one for one in sums if one >= amount], default=None))
            self.assertTrue(same(near_sums(notes, amount), near), (notes, amount, near_sums(notes, amount), near))
            for value in lots_of(notes) + [told, None] + near_values(told) + odd_values():
                is_right = value in others if is_climbing(value, 0, len(notes)) else value is None and not others
                self.assertIs(shows_lot(notes, amount, value), is_right, (notes, amount, value))

    def test_errors_in_their_sequence(self):
        long, longer = (('a', 1),) * 21, (('a', 1),) * 25
        for value in odd_values() + ['1', (1,)]:
            if not is_int(value):
                for function in (lots_with, a_lot, near_sums):
                    self.refused(BadAmount, value, function, longer, value)
                self.refused(BadAmount, value, shows_lot, longer, value, None)
        self.refused(TooLong, 21, lots_with, long, 10)
        self.refused(TooLong, 200, lots_with, (('a', 1),) * 200, 10)
        for function in (a_lot, near_sums):
            self.refused(TooLong, 25, function, longer, 5)
        self.refused(TooLong, 25, shows_lot, longer, 5, None)
        self.assertEqual(a_lot(longer[:24], 24), tuple(range(24)))

    def test_too_many(self):
        self.refused(TooMany, 1000, lots_with, (('a', 1),) * 20, 10)
        self.refused(TooMany, 1000, lots_with, (('a', 1), ('a', -1)) * 7, 0)
        self.refused(TooMany, 1000, lots_with, (('a', 1),) * 20, 3)
        self.assertEqual(len(lots_with((('a', 1),) * 20, 2)), 190)
        # Two of five ones, of five hundreds and of five myriads: 10 lots each, and one more each by a single note.
        notes = tuple((word, amount) for word, amount in (('a', 1), ('b', 100), ('c', 10000))
                      for _ in range(5)) + (('d', 2), ('e', 200), ('f', 20000))
        many = len([lot for lot in lots_of(notes) if total(notes, lot) == 20202])
        self.assertEqual(many, 11 ** 3)
        self.refused(TooMany, 1000, lots_with, notes, 20202)
        plain = tuple((word, amount) for word, amount in (('a', 1), ('b', 100), ('c', 10000)) for _ in range(5))
        self.assertEqual(len(lots_with(plain, 20202)), 1000)
        self.refused(TooMany, 1000, lots_with, plain + (('d', 20202),), 20202)

    def test_great(self):
        draw = random.Random(75)
        notes = tuple(('a', draw.randint(-MOST, MOST) or 1) for _ in range(24))
        lot = tuple(sorted(draw.sample(range(24), 11)))
        self.assertTrue(shows_lot(notes, total(notes, lot), a_lot(notes, total(notes, lot))))
        self.assertEqual(near_sums(notes, total(notes, lot)), (total(notes, lot), total(notes, lot)))
        most = sum(amount for _, amount in notes if amount > 0)
        self.assertEqual(near_sums(notes, most + 1), (most, None))
        self.assertEqual(near_sums(notes, 10 ** 39)[1], None)
        self.assertEqual(near_sums(notes, -10 ** 39)[0], None)
        self.assertEqual((a_lot(notes, 10 ** 39), lots_with(notes[:20], 10 ** 39)), (None, ()))
        self.assertEqual(near_sums((), 0), (0, 0))
        self.assertEqual((near_sums((), 1), near_sums((), -1)), ((0, None), (None, 0)))
        self.assertEqual((a_lot((), 0), lots_with((), 0), lots_with((), 1)), (None, ((),), ()))
        self.assertTrue(shows_lot((), 0, None) and not shows_lot((), 0, ()))


class OfSlips(Raising):

    def test_beside_the_table(self):
        for amount in list(range(-130, 131)) + [900, 909, 990, 1000, 1001, 1010, 1100]:
            for its in list(range(-30, 131)) + [1, 10, 99, 100, 900, 909, 990, 1000, 1001, 1010, 1100, 2000, -1000]:
                if amount and its:
                    self.assertEqual(slips_of(amount, its), slips(amount, its), (amount, its))
        draw = random.Random(76)
        for _ in range(3000):
            amount = draw.randint(1, 10 ** draw.randint(1, 12))
            figures = list(str(amount))
            at = draw.randrange(len(figures))
            kind = draw.randrange(3)
            if kind == 0:
                figures[at] = draw.choice('0123456789')
            if kind == 1 and at:
                figures[at - 1], figures[at] = figures[at], figures[at - 1]
            its = int(''.join(figures)) or 1
            for one, other in ((amount, its), (its, amount), (-amount, -its), (amount, -its)):
                self.assertTrue(same(slips_of(one, other), slips(one, other)))

    def test_ordinary(self):
        for amount, its, words in ((5, 5, ()), (10, 1, ('shift', 'swapped')), (1, 10, ('shift',)), (100, 10, ('shift', 'swapped')),
                                   (12, 21, ('swapped',)), (11, 11, ()), (1, 2, ('digit', 'twice')), (5, 10, ('twice',)),
                                   (-5, -10, ('twice',)), (-5, 10, ()), (5, -5, ('sign',)), (12, -21, ()),
                                   (1020, 120, ('swapped',)), (1200, 2100, ('swapped',)), (MOST, MOST // 10, ('shift', 'swapped'))):
            self.assertTrue(same(slips_of(amount, its), words), (amount, its))

    def test_bad_amounts(self):
        for value in odd_values() + [0, MOST + 1, -MOST - 1, '1']:
            if not is_int(value, -MOST, MOST) or value == 0:
                self.refused(BadAmount, value, slips_of, value, None)
                self.refused(BadAmount, value, slips_of, 1, value)

    def test_slips_in(self):
        draw = random.Random(77)
        self.assertTrue(same(slips_in(ONE, OTHER), ((1, 1, ('shift', 'swapped')),)))
        for _ in range(200):
            one, other = drawn_book(draw, 7, 'ab', 30), drawn_book(draw, 7, 'ab', 30)
            _, mine, its = paired(one, other)
            right = [(at, to, slips(one[at][1], other[to][1])) for at in mine for to in its
                     if one[at][0] == other[to][0] and slips(one[at][1], other[to][1])]
            self.assertEqual(slips_in(one, other), tuple(right))
