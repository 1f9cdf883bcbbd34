import unittest

from oncebooked.errors import BadDeeds, BadFiles, BadLine, BadLines, BadName, Full
from oncebooked.shelves import are_files, done_deeds, is_deed, is_line, pending, Shelf
from tests import model
from tests.values import deep, odd_values, same

LONG = 'x' * 200
NAMES = tuple(sorted(one + other for one in 'abcdef' for other in 'klmnopq'))
FORTY = tuple((name, ()) for name in NAMES[:40])
FULL_FILE = (('a', ('x',) * 20000),)


class Raising(unittest.TestCase):

    def refused(self, error, value, function, *arguments):
        with self.assertRaises(error) as caught:
            function(*arguments)
        self.assertIs(type(caught.exception), error)
        self.assertTrue(same(caught.exception.value, value), (caught.exception.value, value))


class Kinds(unittest.TestCase):

    def test_lines(self):
        for line in ('x', ' ', '~', 'a b', '!"#', LONG, '  ', ''.join(chr(sign) for sign in range(32, 127))):
            self.assertIs(is_line(line), True, line)
        for value in ('', 'x' * 201, 'a\n', '\t', 'a\tb', '\x7f', '\x1f', 'a\x00', '\u00e9', '\u00a0'):
            self.assertIs(is_line(value), False, repr(value))
        for value in odd_values():
            if not isinstance(value, str):
                self.assertIs(is_line(value), False, repr(value))

    def test_deeds(self):
        for deed in (('sync',), ('add', 'a', 'x'), ('add', 'abcdefgh', LONG), ('lay', 'z', ()), ('lay', 'a', ('x', LONG)),
                     ('lay', 'a', ('x',) * 20000)):
            self.assertIs(is_deed(deed), True)
        for value in (('add', 'a', ''), ('add', 'a', 'x' * 201), ('add', 'a', ('x',)), ('add', 'A', 'x'), ('add', '', 'x'),
                      ('add', 'abcdefghi', 'x'), ('add', 'a', 'x', 'y'), ('add', 'a'), ('add',), ('lay',),
                      ('add', 1, 'x'), ('add', ['a'], 'x'), ('add', 'a', 1), ('add', 'a', None), ('add', 'a', '\t'),
                      ('lay', 'a', ('',)), ('lay', 'a', ('x', '')), ('lay', 'a', ['x']), ('lay', 'a', 'x'),
                      ('lay', 'a', (1,)), ('lay', 'a', ('x',) * 20001), ('lay', 'a.b', ()), ('lay', 'a'), ('lay', 'a', None),
                      ('lay', 'a', ('x', 'a\n')), ('sync', 'a'), ('sync', 'a', 'x'), ('sync', 'a', ()), ('read', 'a', 'x'),
                      ['sync'], ['add', 'a', 'x'], 'sync', (), ('Sync',), (('sync',),), (['sync'],), (None,), (1,),
                      ('', 'a', 'x'), (True, 'a', 'x'), (['add'], 'a', 'x'), ('add', 'a', ['x'])):
            self.assertIs(is_deed(value), False, repr(value)[:80])
        for value in odd_values():
            if value != ('sync',):
                self.assertIs(is_deed(value), False, repr(value))

    def test_files(self):
        for files in ((), (('a', ()),), (('a', ('',)),), (('a', ('x', '', LONG)), ('b', ())), FORTY, FULL_FILE,
                      (('a', ()), ('aa', ()), ('b', ()))):
            self.assertIs(are_files(files), True)
        for value in ([], [('a', ())], (('b', ()), ('a', ())), (('a', ()), ('a', ())), (('a', ()), ('a', ('x',))),
                      (['a', ()],), (('a', []),), (('a', None),), (('a',),), (('a', (), ()),), (('A', ()),), (('', ()),),
                      (('abcdefghi', ()),), ((1, ()),), ((['a'], ()),), (('a', (1,)),), (('a', ('x', 'x' * 201)),),
                      (('a', ('\n',)),), (('a', ('x', None)),), (('a', 'x'),), ('a', ()), {}, 'a', None,
                      tuple((name, ()) for name in NAMES[:41]), (('a', ('x',) * 20001),), (('aa', ()), ('a', ())),
                      (('a', ()), ('c', ()), ('b', ())), (('a', ()), None)):
            self.assertIs(are_files(value), False, repr(value)[:80])
        for value in odd_values():
            if not same(value, ()):
                self.assertIs(are_files(value), False, repr(value))


class OfAShelf(Raising):

    def test_ordinary(self):
        shelf = Shelf((('b', ('one', '')), ('c', ())))
        self.assertEqual((shelf.files, shelf.log), ((('b', ('one', '')), ('c', ())), ()))
        self.assertIsNone(shelf.add('b', 'two'))
        self.assertIsNone(shelf.add('a', 'new'))
        self.assertIsNone(shelf.sync())
        self.assertIsNone(shelf.lay('c', ('x', 'x')))
        self.assertIsNone(shelf.lay('b', ()))
        self.assertIsNone(shelf.lay('d', ()))
        self.assertIsNone(shelf.sync())
        self.assertIsNone(shelf.sync())
        self.assertEqual(shelf.files, (('a', ('new',)), ('b', ()), ('c', ('x', 'x')), ('d', ())))
        self.assertEqual(shelf.log, (('add', 'b', 'two'), ('add', 'a', 'new'), ('sync',), ('lay', 'c', ('x', 'x')),
                                     ('lay', 'b', ()), ('lay', 'd', ()), ('sync',), ('sync',)))
        self.assertEqual(done_deeds((('b', ('one', '')), ('c', ())), shelf.log), shelf.files)

    def test_read(self):
        shelf = Shelf((('a', ('', 'x')), ('b', ())))
        self.assertEqual((shelf.read('a'), shelf.read('b'), shelf.read('c')), (('', 'x'), (), None))
        shelf.add('c', 'y')
        shelf.add('a', 'z')
        self.assertEqual((shelf.read('a'), shelf.read('c'), len(shelf.log)), (('', 'x', 'z'), ('y',), 2))

    def test_what_was_told_does_not_change(self):
        shelf = Shelf((('a', ('x',)),))
        files, log, lines = shelf.files, shelf.log, shelf.read('a')
        shelf.add('a', 'y')
        self.assertEqual((files, log, lines), ((('a', ('x',)),), (), ('x',)))

    def test_copy(self):
        shelf = Shelf((('a', ('x', '')),))
        shelf.add('a', 'y')
        shelf.add('b', 'z')
        twin = shelf.copy()
        self.assertIsInstance(twin, Shelf)
        self.assertEqual((twin.files, twin.log), (shelf.files, shelf.log))
        files, log = shelf.files, shelf.log
        twin.add('a', 'more')
        twin.lay('c', ())
        twin.sync()
        self.assertEqual((shelf.files, shelf.log), (files, log))
        self.assertEqual(twin.log, log + (('add', 'a', 'more'), ('lay', 'c', ()), ('sync',)))
        files, log = twin.files, twin.log
        shelf.add('b', 'own')
        shelf.lay('a', ())
        self.assertEqual((twin.files, twin.log), (files, log))

    def test_two_shelves_of_the_same_files_have_nothing_in_common(self):
        files = (('a', ('x',)),)
        one, other = Shelf(files), Shelf(files)
        one.add('a', 'y')
        self.assertEqual((other.files, other.log), (files, ()))

    def test_bad_files(self):
        for value in odd_values() + [(('b', ()), ('a', ())), (('a', ('x',) * 20001),)]:
            if not same(value, ()):
                self.refused(BadFiles, value, Shelf, value)

    def test_bad_names(self):
        shelf = Shelf(())
        for value in odd_values():
            if value not in ('a', 'add', 'sync'):
                self.refused(BadName, value, shelf.read, value)
                self.refused(BadName, value, shelf.add, value, '')
                self.refused(BadName, value, shelf.lay, value, None)
        self.assertEqual((shelf.files, shelf.log), ((), ()))

    def test_bad_lines(self):
        files = FORTY
        shelf = Shelf(files)
        for value in ['', 'x' * 201, '\n', '\t', 'a\u00e9', ('x',)] + [odd for odd in odd_values() if not isinstance(odd, str)]:
            self.refused(BadLine, value, shelf.add, 'full', value)
        for value in [('',), ('x', ''), ['x'], 'x', ('x',) * 20001, (1,), None, ('x', 'y' * 201), deep(tuple)]:
            self.refused(BadLines, value, shelf.lay, 'full', value)
        self.assertEqual((shelf.files, shelf.log), (files, ()))

    def test_full_of_files(self):
        shelf = Shelf(FORTY[:39])
        shelf.add('full', 'x')
        self.refused(Full, 'zzz', shelf.add, 'zzz', 'x')
        self.refused(Full, 'zzz', shelf.lay, 'zzz', ())
        self.assertEqual((len(shelf.files), len(shelf.log)), (40, 1))
        shelf.add('full', 'y')
        shelf.lay('full', ('z',))
        shelf.sync()
        self.assertEqual(shelf.read('full'), ('z',))
        other = Shelf(FORTY[:39])
        other.lay('full', ())
        self.refused(Full, 'zzz', other.lay, 'zzz', ())

    def test_full_of_lines(self):
        shelf = Shelf((('a', ('x',) * 19999),))
        shelf.add('a', 'y')
        self.refused(Full, 'a', shelf.add, 'a', 'z')
        self.assertEqual((len(shelf.read('a')), len(shelf.log)), (20000, 1))
        shelf.lay('a', ('x',) * 20000)
        self.refused(Full, 'a', shelf.add, 'a', 'z')
        shelf.lay('a', ('x',) * 19999)
        shelf.add('a', 'y')
        self.assertEqual(len(shelf.log), 4)


class OfDoneDeeds(Raising):

    def test_drawn(self):
        for seed in range(300):
            files, deeds = model.drawn(seed)
            shelf = Shelf(files)
            for deed in deeds:
                getattr(shelf, deed[0])(*deed[1:])
            self.assertEqual(done_deeds(files, deeds), model.done(files, deeds))
            self.assertEqual((shelf.files, shelf.log), (model.done(files, deeds), deeds))
            later = model.parted(deeds)[1]
            names = sorted({deed[1] for deed in later})
            expected = tuple((name, sum(deed[1] == name for deed in later)) for name in names)
            self.assertEqual(pending(files, deeds), expected)

    def test_pending(self):
        deeds = (('add', 'c', 'x'), ('sync',), ('add', 'b', 'x'), ('lay', 'a', ()), ('add', 'b', 'y'), ('lay', 'b', ()))
        self.assertEqual(pending((), deeds), (('a', 1), ('b', 3)))
        self.assertEqual(pending((), deeds[:2]), ())
        self.assertEqual(pending((), deeds[:1]), (('c', 1),))
        self.assertEqual(pending((), deeds + (('sync',),)), ())
        self.assertEqual((pending((), ()), done_deeds(FORTY, ())), ((), FORTY))

    def test_bad_deeds(self):
        for value in odd_values():
            if isinstance(value, tuple) and value not in ((), ('sync',)):
                self.refused(BadDeeds, 0, done_deeds, (), value)
            elif not isinstance(value, tuple):
                self.refused(BadDeeds, None, done_deeds, (), value)
        self.refused(BadDeeds, 0, done_deeds, (), ('sync',))
        good = (('add', 'a', 'x'), ('sync',), ('lay', 'a', ()))
        for value in (None, 1, ['sync'], ('add', 'a', ''), ('lay', 'a', ('',)), ('lay', 'A', ()), 'sync', True):
            self.refused(BadDeeds, 3, done_deeds, (), good + (value,))
            self.refused(BadDeeds, 1, done_deeds, (), good[:1] + (value, None) + good)
        self.refused(BadDeeds, None, done_deeds, (), list(good))

    def test_number_of_deeds(self):
        self.assertEqual(done_deeds((), (('sync',),) * 50000), ())
        self.refused(BadDeeds, None, done_deeds, (), (('sync',),) * 50001)
        self.refused(BadDeeds, None, done_deeds, (), (None,) * 50001)
        self.refused(BadDeeds, 49999, done_deeds, (), (('sync',),) * 49999 + (None,))

    def test_no_room_for_deeds(self):
        self.refused(BadDeeds, 2, done_deeds, FORTY[:39], (('add', 'x', 'x'), ('sync',), ('add', 'y', 'x'), None))
        self.refused(BadDeeds, 1, done_deeds, FORTY[:39], (('lay', 'x', ()), ('lay', 'y', ())))
        self.assertEqual(len(done_deeds(FORTY, (('add', NAMES[0], 'x'), ('lay', NAMES[1], ('x',))))), 40)
        self.refused(BadDeeds, 1, done_deeds, (), (('lay', 'a', ('x',) * 20000), ('add', 'a', 'x')))
        self.refused(BadDeeds, 0, done_deeds, FULL_FILE, (('add', 'a', 'x'),))
        self.refused(BadDeeds, 20000, done_deeds, (), (('add', 'a', 'x'),) * 20001)
        self.assertEqual(done_deeds((), (('add', 'a', 'x'),) * 20000), FULL_FILE)
        room = (('lay', 'a', ()), ('add', 'a', 'x'))
        self.assertEqual(done_deeds(FULL_FILE, room), (('a', ('x',)),))
