import random
import unittest

from oncebooked.errors import BadChoices, BadDeeds, BadFiles, BadNumber, NotLeft, TooMany
from oncebooked.shelves import all_left, are_files, choices_for, cuts_many, done_deeds, is_left, left_by, nth_left
from oncebooked.shelves import pending
from tests import model
from tests.test_shelves import FORTY, LONG, NAMES, Raising
from tests.values import odd_values, same

DRAWS = range(400)
FUNCTIONS = ((done_deeds, ()), (pending, ()), (left_by, (None,)), (cuts_many, ()), (nth_left, (None,)), (all_left, ()),
             (is_left, (None,)), (choices_for, (None,)))


def tens(many):
    """Deeds with 10 ** many choices: a line of eight signs is added to each of many files."""
    return tuple(('add', name, '12345678') for name in NAMES[:many])


class Drawn(Raising):

    def test_all_agree_with_point_4(self):
        for seed in DRAWS:
            files, deeds = model.drawn(seed)
            found = model.all_choices(files, deeds)
            self.assertEqual(all_left(files, deeds), tuple(left for _, left in found))
            self.assertEqual(cuts_many(files, deeds), len(found))
            self.assertEqual([choices for choices, _ in found], sorted(choices for choices, _ in found))
            for number, (choices, left) in enumerate(found):
                self.assertEqual(left_by(files, deeds, choices), left)
                self.assertEqual(nth_left(files, deeds, number), left)
                self.assertIs(is_left(files, deeds, left), True)
                self.assertEqual(left_by(files, deeds, choices_for(files, deeds, left)), left)
                self.assertTrue(are_files(left))

    def test_numbers_go_round(self):
        for seed in DRAWS:
            files, deeds = model.drawn(seed)
            told = all_left(files, deeds)
            for number in (len(told), 3 * len(told) + 1, 10 ** 9):
                self.assertEqual(nth_left(files, deeds, number), told[number % len(told)])

    def test_near_ones_are_left_only_if_some_choices_leave_them(self):
        seen = {True: 0, False: 0}
        for seed in DRAWS:
            files, deeds = model.drawn(seed)
            draw = random.Random(seed)
            told = all_left(files, deeds)
            for left in told[:60] + (files, done_deeds(files, deeds)):
                value = model.near(left, draw)
                self.assertIs(is_left(files, deeds, value), value in told)
                seen[value in told] += 1
                if value in told:
                    self.assertEqual(left_by(files, deeds, choices_for(files, deeds, value)), value)
                else:
                    self.refused(NotLeft, value, choices_for, files, deeds, value)
        self.assertTrue(min(seen.values()) > 1000, seen)

    def test_choices_that_are_none(self):
        for seed in DRAWS:
            files, deeds = model.drawn(seed)
            good = {choices for choices, _ in model.all_choices(files, deeds)}
            for choices in list(good)[:20]:
                for at in range(len(choices)):
                    for done in range(-1, pending(files, deeds)[at][1] + 2):
                        for signs in range(-2, 5):
                            value = choices[:at] + ((done, signs),) + choices[at + 1:]
                            if value in good:
                                left_by(files, deeds, value)
                            else:
                                self.refused(BadChoices, value, left_by, files, deeds, value)

    def test_done_deeds_can_be_left_and_behind_a_sync_nothing_else(self):
        for seed in DRAWS:
            files, deeds = model.drawn(seed)
            self.assertTrue(is_left(files, deeds, done_deeds(files, deeds)))
            synced = deeds + (('sync',),)
            self.assertEqual(all_left(files, synced), (done_deeds(files, deeds),))
            self.assertEqual((cuts_many(files, synced), choices_for(files, synced, done_deeds(files, deeds))), (1, ()))

    def test_a_sync_more_leaves_nothing_new(self):
        for seed in DRAWS:
            files, deeds = model.drawn(seed)
            without = set(all_left(files, deeds))
            for at in range(len(deeds) + 1):
                self.assertTrue(set(all_left(files, deeds[:at] + (('sync',),) + deeds[at:])) <= without)

    def test_files_that_are_only_added_to(self):
        for seed in DRAWS:
            files, deeds = model.drawn(seed)
            deeds = tuple(deed for deed in deeds if deed[0] == 'add')
            for left in all_left(files, deeds):
                for name, lines in left:
                    first = dict(files).get(name, ())
                    added = tuple(deed[2] for deed in deeds if deed[1] == name)
                    rest = lines[len(first):]
                    self.assertEqual(lines[:len(first)], first)
                    if rest != added[:len(rest)]:
                        whole = len(rest) - 1
                        self.assertEqual(rest[:whole], added[:whole])
                        self.assertTrue(added[whole].startswith(rest[whole]) and added[whole] != rest[whole])


class Edges(Raising):

    def test_a_file_that_was_not_there(self):
        deeds = (('add', 'a', 'xy'),)
        self.assertEqual(all_left((), deeds), ((), (('a', ('',)),), (('a', ('x',)),), (('a', ('xy',)),)))
        self.assertIs(is_left((), deeds, (('a', ()),)), False)
        self.assertEqual(all_left((('a', ()),), deeds),
                         ((('a', ()),), (('a', ('',)),), (('a', ('x',)),), (('a', ('xy',)),)))
        self.assertIs(is_left((('a', ()),), deeds, ()), False)
        self.assertEqual(all_left((), (('lay', 'a', ()),)), ((), (('a', ()),)))
        self.assertEqual(choices_for((), (('lay', 'a', ()), ('add', 'a', 'x')), (('a', ()),)), ((1, -1),))
        self.assertIs(is_left((), (('add', 'a', 'x'), ('lay', 'a', ())), (('a', ()),)), True)

    def test_what_is_added_comes_behind_a_torn_line(self):
        files = (('a', ('one', 'tw')),)
        self.assertEqual(all_left(files, (('add', 'a', 'x'), ('sync',))), ((('a', ('one', 'tw', 'x')),),))
        self.assertIs(is_left(files, (('add', 'a', 'o'),), (('a', ('one', 'two')),)), False)

    def test_a_torn_line_is_never_the_line(self):
        deeds = (('add', 'a', 'xy'), ('add', 'a', 'z'))
        self.refused(BadChoices, ((0, 2),), left_by, (), deeds, ((0, 2),))
        self.assertEqual(left_by((), deeds, ((0, 1),)), (('a', ('x',)),))
        self.assertEqual(choices_for((), deeds, (('a', ('xy',)),)), ((1, -1),))

    def test_no_torn_lines_of_a_lay_and_behind_all(self):
        deeds = (('lay', 'a', ('xyz',)), ('add', 'b', 'x'))
        self.assertEqual(left_by((), deeds, ((1, -1), (1, -1))), (('a', ('xyz',)), ('b', ('x',))))
        for value in (((0, 0), (1, -1)), ((1, 0), (1, -1)), ((1, -1), (1, 0)), ((1, -1), (0, 1)), ((2, -1), (1, -1)),
                      ((-1, -1), (1, -1)), ((1, -2), (1, -1)), ((1, -1), (2, -1))):
            self.refused(BadChoices, value, left_by, (), deeds, value)
        self.assertIs(is_left((), deeds, (('a', ('xy',)),)), False)

    def test_files_without_a_deed_since_the_sync_are_left_as_they_are(self):
        files = (('a', ('x',)), ('b', ()))
        deeds = (('add', 'a', 'y'), ('sync',), ('lay', 'c', ()))
        self.assertEqual(all_left(files, deeds), ((('a', ('x', 'y')), ('b', ())),
                                                  (('a', ('x', 'y')), ('b', ()), ('c', ()))))
        for value in ((('a', ('x',)), ('b', ())), (('a', ('x', 'y')),), (('a', ('x', 'y')), ('b', ()), ('d', ())),
                      (('a', ('x', 'y')), ('b', ('',)))):
            self.assertIs(is_left(files, deeds, value), False)

    def test_one_stretch_of_adds_nearly_leaves_it_and_another_does(self):
        for deeds, lines, choices in (
                ((('lay', 'a', ('x',)), ('add', 'a', 'yyy'), ('lay', 'a', ('x', 'z'))), ('x', 'z'), ((3, -1),)),
                ((('lay', 'a', ()), ('add', 'a', 'yyy'), ('lay', 'a', ('y', 'z'))), ('y', 'z'), ((3, -1),)),
                ((('add', 'a', 'yy'), ('add', 'a', 'zz'), ('lay', 'a', ()), ('add', 'a', 'zz')), ('z',), ((3, 1),)),
                ((('lay', 'a', ('x',)), ('lay', 'a', ()), ('add', 'a', 'x'), ('add', 'a', 'y')), ('x', ''), ((3, 0),))):
            self.assertEqual(choices_for((), deeds, (('a', lines),)), choices)
            self.assertIs(is_left((), deeds, (('a', lines),)), True)
        self.assertIs(is_left((), (('lay', 'a', ()), ('lay', 'a', ('x',))), (('a', ('x', 'x')),)), False)

    def test_words_of_deeds_as_names_and_lines(self):
        deeds = (('add', 'sync', 'sync'), ('lay', 'lay', ('sync', 'add')), ('add', 'add', 'sync'))
        self.assertEqual(pending((), deeds), (('add', 1), ('lay', 1), ('sync', 1)))
        self.assertEqual(cuts_many((), deeds), 6 * 2 * 6)
        self.assertEqual(len(set(all_left((), deeds))), 72)
        self.assertEqual(left_by((), deeds, ((0, 3), (1, -1), (0, -1))), (('add', ('syn',)), ('lay', ('sync', 'add'))))
        self.refused(BadDeeds, 0, cuts_many, FORTY, (('add', 'sync', 'sync'),))
        self.refused(BadDeeds, 0, cuts_many, FORTY, (('lay', 'sync', ('sync',)),))

    def test_the_last_file_changes_first(self):
        deeds = (('add', 'b', 'x'), ('lay', 'a', ('y',)))
        self.assertEqual([nth_left((), deeds, number) for number in range(6)],
                         [(), (('b', ('',)),), (('b', ('x',)),), (('a', ('y',)),), (('a', ('y',)), ('b', ('',))),
                          (('a', ('y',)), ('b', ('x',)))])

    def test_nothing_was_done(self):
        self.assertEqual((all_left(FORTY, ()), cuts_many(FORTY, ()), nth_left(FORTY, (), 7)), ((FORTY,), 1, FORTY))
        self.assertEqual((left_by(FORTY, (), ()), choices_for(FORTY, (), FORTY)), (FORTY, ()))
        self.refused(BadChoices, ((0, -1),), left_by, FORTY, (), ((0, -1),))


class Refused(Raising):

    def test_files_first_then_deeds(self):
        bad = (('b', ()), ('a', ()))
        for function, more in FUNCTIONS:
            self.refused(BadFiles, bad, function, bad, None, *more)
            self.refused(BadDeeds, None, function, (), [('sync',)], *more)
            self.refused(BadDeeds, None, function, (), (('sync',),) * 50001, *more)
            self.refused(BadDeeds, 1, function, (), (('sync',), ('sync', 'a')), *more)
            self.refused(BadDeeds, 1, function, FORTY[:39], (('add', 'x', 'x'), ('add', 'y', 'x')), *more)
            self.refused(BadDeeds, 0, function, (('a', ('x',) * 20000),), (('add', 'a', 'x'),), *more)
            for value in odd_values():
                if not same(value, ()):
                    self.refused(BadFiles, value, function, value, value, *more)

    def test_bad_deeds_ahead_of_too_many(self):
        deeds = tens(30) + (None,)
        self.refused(BadDeeds, 30, all_left, (), deeds)
        self.refused(BadDeeds, 30, cuts_many, (), deeds)
        self.refused(BadDeeds, 30, nth_left, (), deeds, 0)
        self.refused(BadDeeds, 30, choices_for, (), deeds, None)
        self.refused(BadDeeds, 30, is_left, (), deeds, ())

    def test_bad_choices(self):
        deeds = (('add', 'a', 'xyz'), ('add', 'b', 'xyz'))
        for value in odd_values() + [((0, -1),), ((0, -1),) * 3, [(0, -1), (0, -1)], ((0, -1), [0, -1]), ((0, -1), (0,)),
                                     ((0, -1), (0, -1, 0)), ((True, -1), (0, -1)), ((0, -1), (0, True)), ((0, -1), None),
                                     ((0, -1), (0, None)), ((0, -1), ('0', -1)), ((0, -1), (False, 0))]:
            self.refused(BadChoices, value, left_by, (), deeds, value)

    def test_bad_numbers(self):
        for value in odd_values() + [10 ** 9 + 1]:
            if not (same(value, 0) or same(value, 1)):
                self.refused(BadNumber, value, nth_left, (), (('add', 'a', 'x'),), value)
                self.refused(BadNumber, value, nth_left, (), tens(19), value)
        self.assertEqual(nth_left((), (('add', 'a', 'x'),), 10 ** 9), (('a', ('',)),))

    def test_what_is_not_left(self):
        deeds = (('add', 'a', 'x'),)
        for value in odd_values() + [(('a', ['x']),), [('a', ('x',))], (('a', ('x', 'x')),), (('b', ('x',)),)]:
            if not same(value, ()):
                self.assertIs(is_left((), deeds, value), False)
                self.refused(NotLeft, value, choices_for, (), deeds, value)

    def test_too_many_in_all(self):
        deeds = tens(3) + (('add', 'z', '123'),)
        self.assertEqual((cuts_many((), deeds), len(all_left((), deeds))), (5000, 5000))
        deeds = (('lay', 'a', ()),) * 1666 + (('lay', 'b', ()),) * 2
        self.assertEqual(cuts_many((), deeds), 5001)
        self.refused(TooMany, 5000, all_left, (), deeds)
        self.refused(TooMany, 5000, all_left, (), tens(40))

    def test_too_many_to_count(self):
        self.assertEqual(cuts_many((), tens(18)), 10 ** 18)
        self.assertEqual(nth_left((), tens(18), 0), ())
        more = tuple(('add', name, '1234567') for name in NAMES[:18]) + (('lay', 'z', ()),) * 5
        self.assertEqual(cuts_many((), more), 9 ** 18 * 6)
        just = tens(12) + (('lay', 'y', ()),) * 999 + (('lay', 'z', ()),) * 999
        self.assertEqual(cuts_many((), just), 10 ** 18)
        self.assertEqual(nth_left((), just, 1002), (('y', ()), ('z', ())))
        for more in (tens(18) + (('lay', 'z', ()),), just + (('lay', 'y', ()),), tens(40)):
            self.refused(TooMany, 10 ** 18, cuts_many, (), more)
            self.refused(TooMany, 10 ** 18, nth_left, (), more, 0)


class Large(Raising):

    def setUp(self):
        self.files = tuple((name, ('old',) * 100) for name in NAMES[:40])
        self.deeds = tuple(('add', NAMES[at % 40], LONG) for at in range(49000))

    def test_more_choices_than_can_be_gone_through(self):
        files, deeds = self.files, self.deeds
        self.refused(TooMany, 10 ** 18, cuts_many, files, deeds)
        self.assertEqual(pending(files, deeds), tuple((name, 1225) for name in NAMES[:40]))
        choices = tuple((at * 30, 3 * at) for at in range(40))
        left = left_by(files, deeds, choices)
        self.assertEqual(left[39], (NAMES[39], ('old',) * 100 + (LONG,) * 1170 + ('x' * 117,)))
        self.assertIs(is_left(files, deeds, left), True)
        self.assertEqual(choices_for(files, deeds, left), choices)
        value = left[:39] + ((left[39][0], left[39][1] + ('y',)),)
        self.assertIs(is_left(files, deeds, value), False)
        self.refused(NotLeft, value, choices_for, files, deeds, value)

    def test_one_long_file(self):
        files = (('a', ('old',) * 5000),)
        deeds = tuple(('add', 'a', str(at) + LONG[:190]) for at in range(15000))
        many = cuts_many(files, deeds)
        self.assertEqual(many, 15001 + sum(len(deed[2]) for deed in deeds))
        for number in (0, 1, 191, 192, many // 2, many - 1, many + 5):
            left = nth_left(files, deeds, number)
            way = choices_for(files, deeds, left)
            self.assertEqual(left_by(files, deeds, way), left)
            rest = number % many
            self.assertEqual(way[0][1] + 1 + sum(1 + len(deed[2]) for deed in deeds[:way[0][0]]), rest)

    def test_many_lays(self):
        lines = tuple('line' + str(at) for at in range(100))
        deeds = tuple(('lay', 'a', lines[:at % 100]) if at % 2 else ('add', 'a', 'xy') for at in range(30000))
        self.assertEqual(cuts_many((), deeds), 30001 + 30000)
        target = (('a', lines[:77] + ('x',)),)
        way = choices_for((), deeds, target)
        self.assertEqual((left_by((), deeds, way), way[0][1], way[0][0] % 100), (target, 1, 78))
        self.assertIs(is_left((), deeds, (('a', lines[:76]),)), False)
        self.assertEqual(nth_left((), deeds, 61000 - 1000), done_deeds((), deeds))

    def test_few_choices_of_a_long_row(self):
        deeds = (('lay', 'a', ()),) * 4999
        self.assertEqual(all_left((), deeds), ((),) + ((('a', ()),),) * 4999)
