from oncebooked.branch import Branch, new_branch
from oncebooked.entries import Bank, bank_text, batch_text
from oncebooked.errors import BadCall, BadCalls, BadNight, Early, NoBranch, TooEarly
from oncebooked.night import balances_of, is_dawn, left_over, left_to_do, missing, on_the_way, Run, run_through
from oncebooked.plainly import plain_balances, plain_night
from oncebooked.shelves import Shelf, tails_of, ways_numbered
from tests import model
from tests.test_plainly import bad_texts, BANK, NIGHT, NO_NAMES, ONE, OTHER, TWO
from tests.test_shelves import Raising
from tests.values import odd_values, same

TO_DAWN = (('take', 'east', 1), ('take', 'east', 2), ('take', 'west', 1), ('post', 'east', 6), ('post', 'west', 1),
           ('carry', 'east', 'west', (1, 2)), ('carry', 'west', 'east', (1,)),
           ('credit', 'east'), ('credit', 'west'), ('credit', 'lone'))
AT_FIRST = (('east.ann', 50), ('west.cid', 7), ('east.bob', 0), ('east.eve', -5))


def lefts(files, deeds, number):
    """What a cut with this number leaves behind these deeds, as point 7 tells it, worked out by the model of point 4."""
    sure, later = model.parted(deeds)
    rows = dict(model.done(files, sure))
    for name in sorted({deed[1] for deed in later}):
        ways = model.ways(rows.get(name), [deed for deed in later if deed[1] == name])
        rows[name] = ways[number % len(ways)][2]
        number = number // len(ways)
    return model.told(rows)


class OfARun(Raising):

    def test_ahead_of_the_first_call(self):
        run = Run(BANK, NIGHT)
        self.assertTrue(run.bank == BANK)
        self.assertTrue(same((run.night, run.cuts), (NIGHT, ())))
        for name in ('east', 'west', 'lone'):
            shelf = Shelf(())
            new_branch(shelf, BANK, name)
            self.assertEqual((run.shelf_of(name).files, run.shelf_of(name).log), (shelf.files, shelf.log))
            branch = run.branch_at(name)
            self.assertIsInstance(branch, Branch)
            self.assertEqual((branch.name, branch.taken, branch.posted, branch.is_credited), (name, 0, 0, False))
        self.assertEqual((balances_of(run), on_the_way(run), missing(run)), (AT_FIRST, (), 0))
        self.assertEqual((left_over(run), is_dawn(run), left_to_do(run)), (3 + 7 + 3 + 3, False, TO_DAWN))

    def test_to_dawn(self):
        run = Run(BANK, NIGHT)
        left = left_over(run)
        for at, call in enumerate(TO_DAWN):
            self.assertEqual(left_to_do(run), TO_DAWN[at:])
            self.assertIs(is_dawn(run), False)
            self.assertEqual(run.go_on(call), 'done')
            self.assertLess(left_over(run), left)
            left = left_over(run)
            self.assertEqual(missing(run), 0)
        self.assertEqual((left, is_dawn(run), left_to_do(run), on_the_way(run)), (0, True, (), ()))
        self.assertEqual(balances_of(run), plain_balances(BANK, NIGHT))
        self.assertEqual(tuple(run.branch_at(name).row for name in ('east', 'west', 'lone')), plain_night(BANK, NIGHT))

    def test_dawn_stays(self):
        run = run_through(BANK, NIGHT, TO_DAWN)
        for call in TO_DAWN + TO_DAWN[::-1] + (('post', 'west', 0), ('carry', 'east', 'west', (2, 1, 3)),
                                               ('carry', 'lone', 'east', ()), ('post', 'lone', 10 ** 6)):
            files = [run.shelf_of(name).files for name in ('east', 'west', 'lone')]
            self.assertEqual(run.go_on(call), 'done')
            self.assertEqual([run.shelf_of(name).files for name in ('east', 'west', 'lone')], files)
        for name in ('east', 'west', 'lone'):
            run.go_on(('cut', name, 1, 1))
        self.assertEqual([run.go_on(call) for call in TO_DAWN[-3:]], ['cut'] * 3)
        self.assertEqual((is_dawn(run), missing(run), balances_of(run)), (True, 0, plain_balances(BANK, NIGHT)))

    def test_letters_are_on_the_way_until_they_are_credited(self):
        run = run_through(BANK, NIGHT, TO_DAWN[:5])
        way = (('east', 'west', 1, 'west.cid', 30), ('east', 'west', 2, 'west.cid', 20), ('west', 'east', 1, 'east.ann', 7))
        self.assertTrue(same(on_the_way(run), way))
        run.go_on(TO_DAWN[5])
        run.go_on(TO_DAWN[6])
        self.assertEqual((on_the_way(run), missing(run)), (way, 0))
        run.go_on(('credit', 'west'))
        self.assertEqual((on_the_way(run), missing(run)), (way[2:], 0))
        run.go_on(('credit', 'lone'))
        self.assertEqual(on_the_way(run), way[2:])

    def test_letters_stand_by_one_then_by_other_then_by_number(self):
        bank = Bank('branch c 1\nbranch a 1\nbranch b 1\naccount b.x 9 0\naccount c.x 9 0\naccount a.x 9 0')
        night = tuple((batch_text(bank, 1, name, tuple((name + '.x', other + '.x', amount) for amount, other in
                                                       enumerate(others, 1))),)
                      for name, others in (('c', 'bab'), ('a', 'bcb'), ('b', 'aca')))
        run = run_through(bank, night, tuple(call for name in 'abc' for call in (('take', name, 1), ('post', name, 3))))
        self.assertEqual(on_the_way(run), (('c', 'a', 1, 'a.x', 2), ('c', 'b', 1, 'b.x', 1), ('c', 'b', 2, 'b.x', 3),
                                           ('a', 'c', 1, 'c.x', 2), ('a', 'b', 1, 'b.x', 1), ('a', 'b', 2, 'b.x', 3),
                                           ('b', 'c', 1, 'c.x', 2), ('b', 'a', 1, 'a.x', 1), ('b', 'a', 2, 'a.x', 3)))
        self.assertEqual(left_to_do(run)[:6], (('carry', 'c', 'a', (1,)), ('carry', 'c', 'b', (1, 2)),
                                               ('carry', 'a', 'c', (1,)), ('carry', 'a', 'b', (1, 2)),
                                               ('carry', 'b', 'c', (1,)), ('carry', 'b', 'a', (1, 2))))
        self.assertEqual(balances_of(run), (('b.x', 3), ('c.x', 3), ('a.x', 3)))

    def test_carry(self):
        run = run_through(BANK, NIGHT, TO_DAWN[:5])
        heard = []
        for numbers in ((), (2,), (2, 3, 10 ** 6), (1, 1), (1,), (2, 2, 1), (1, 2)):
            self.assertEqual(run.go_on(('carry', 'east', 'west', numbers)), 'done')
            heard.append(run.branch_at('west').heard('east'))
        self.assertEqual(heard, [0, 0, 0, 1, 1, 2, 2])
        late = run_through(BANK, NIGHT, TO_DAWN[:1] + (('post', 'east', 1), ('carry', 'east', 'west', (2, 1, 2))))
        self.assertEqual(late.branch_at('west').heard('east'), 1)
        self.assertEqual(left_to_do(late)[4], ('carry', 'east', 'west', (2,)))
        self.assertEqual(late.go_on(('carry', 'east', 'west', (1,) * 2500)), 'done')

    def test_credit_comes_in_any_sequence(self):
        for order in (('lone', 'west', 'east'), ('west', 'east', 'lone'), ('east', 'lone', 'west')):
            run = run_through(BANK, NIGHT, TO_DAWN[:7] + tuple(('credit', name) for name in order))
            self.assertEqual((is_dawn(run), balances_of(run)), (True, plain_balances(BANK, NIGHT)))


class OfGoOn(Raising):

    def test_early(self):
        run = Run(BANK, NIGHT)
        self.refused(Early, 2, run.go_on, ('take', 'east', 2))
        self.assertEqual(left_over(run), 16)
        run.go_on(('take', 'east', 1))
        self.assertEqual([run.go_on(('take', 'east', number)) for number in (1, 2, 1, 2)], ['done'] * 4)

    def test_too_early(self):
        run = Run(BANK, NIGHT)
        for call, other in zip(TO_DAWN[:5], ('east', 'east', 'east', 'east', 'west')):
            for name in ('east', 'west', 'lone'):
                self.refused(TooEarly, other, run.go_on, ('credit', name))
            run.go_on(call)
        run = run_through(BANK, NIGHT, TO_DAWN[:3])
        self.refused(TooEarly, 'east', run.go_on, ('credit', 'west'))
        run.go_on(('post', 'east', 5))
        self.refused(TooEarly, 'east', run.go_on, ('credit', 'west'))
        run.go_on(('post', 'east', 6))
        self.refused(TooEarly, 'west', run.go_on, ('credit', 'lone'))
        run.go_on(('post', 'west', 6))
        self.refused(TooEarly, 'west', run.go_on, ('credit', 'east'))
        self.refused(TooEarly, 'east', run.go_on, ('credit', 'west'))
        run.go_on(('carry', 'east', 'west', (1,)))
        self.refused(TooEarly, 'east', run.go_on, ('credit', 'west'))
        self.assertEqual(run.go_on(('credit', 'lone')), 'done')
        run.go_on(('carry', 'east', 'west', (2,)))
        self.assertEqual([run.go_on(('credit', 'west')), run.go_on(('credit', 'west'))], ['done', 'done'])
        self.refused(TooEarly, 'west', run.go_on, ('credit', 'east'))

    def test_too_early_by_an_empty_batch_that_was_not_taken(self):
        bank = Bank('branch a 1\nbranch b 0')
        run = Run(bank, (('batch 1 a 0 0',), ()))
        self.refused(TooEarly, 'a', run.go_on, ('credit', 'b'))
        self.assertEqual((left_over(run), left_to_do(run)), (3, (('take', 'a', 1), ('credit', 'a'), ('credit', 'b'))))
        run.go_on(('take', 'a', 1))
        self.assertEqual([run.go_on(('credit', 'b')), run.go_on(('credit', 'a')), is_dawn(run)], ['done', 'done', True])

    def wrong_calls(self):
        found = odd_values() + [
            ('take', 'east'), ('take', 'east', 0), ('take', 'east', 3), ('take', 'east', True), ('take', 'east', '1'),
            ('take', 'east', None), ('take', 'lone', 1), ('take', 'west', 2), ('take', 'east', 1, 1), ['take', 'east', 1],
            ('Take', 'east', 1), ('take',), ('take', ['east'], 1), ('post', 'east'), ('post', 'east', -1),
            ('post', 'east', 10 ** 6 + 1), ('post', 'east', True), ('post', 'east', (1,)), ('post', 'east', 1, 1),
            ('carry', 'east', 'west'), ('carry', 'east', 'east', ()), ('carry', 'east', 'west', 1),
            ('carry', 'east', 'west', [1]), ('carry', 'east', 'west', (0,)), ('carry', 'east', 'west', (1, 10 ** 6 + 1)),
            ('carry', 'east', 'west', (1, True)), ('carry', 'east', 'west', (1, None)), ('carry', 'east', 'west', (1,) * 2501),
            ('carry', 'east', 'west', (1,), 1), ('carry', 'east', ['west'], (1,)), ('carry', 'east', None, (1,)),
            ('credit',), ('credit', 'east', 1), ('credit', ('east',)), ('cut', 'east'), ('cut', 'east', 1),
            ('cut', 'east', -1, 0), ('cut', 'east', 1001, 0), ('cut', 'east', True, 0), ('cut', 'east', 0, -1),
            ('cut', 'east', 0, 10 ** 12 + 1), ('cut', 'east', 0, True), ('cut', 'east', 0, 0, 0), ('cut', 'east', '1', 0),
            ('', 'east'), (None, 'east', 1), (('take',), 'east', 1), ('take', 'east', [1]), ('dawn', 'east')]
        for name in NO_NAMES:
            found += [('take', name, 1), ('post', name, 1), ('carry', name, 'west', ()), ('carry', 'west', name, ()),
                      ('credit', name), ('cut', name, 0, 0)]
        return found

    def test_bad_calls(self):
        run = Run(BANK, NIGHT)
        for call in self.wrong_calls():
            self.refused(BadCall, call, run.go_on, call)
            self.refused(BadCalls, 0, run_through, BANK, NIGHT, (call,))
            self.refused(BadCalls, 2, run_through, BANK, NIGHT, (('take', 'east', 2), ('credit', 'east'), call, None))
        self.assertEqual((left_over(run), run.cuts), (16, ()))

    def test_calls_with_least_and_greatest_numbers(self):
        run = Run(BANK, NIGHT)
        for call in (('post', 'east', 0), ('post', 'east', 10 ** 6), ('carry', 'east', 'west', ()),
                     ('carry', 'east', 'west', (10 ** 6,) * 2500)):
            self.assertEqual(run.go_on(call), 'done')
        for call in (('cut', 'east', 0, 0), ('cut', 'east', 1000, 10 ** 12)):
            self.assertEqual(run.go_on(call), 'noted')

    def test_run_through(self):
        for value in odd_values() + [list(TO_DAWN)]:
            if not isinstance(value, tuple):
                self.refused(BadCalls, None, run_through, BANK, NIGHT, value)
        self.refused(BadCalls, None, run_through, BANK, NIGHT, (('credit', 'east'),) * 1001)
        self.refused(BadCalls, None, run_through, BANK, NIGHT, (None,) * 1001)
        self.refused(BadCalls, 999, run_through, BANK, NIGHT, (('credit', 'east'),) * 999 + (None,))
        self.assertEqual(left_over(run_through(BANK, NIGHT, (('credit', 'east'),) * 1000)), 16)
        self.assertEqual(left_over(run_through(BANK, NIGHT, ())), 16)
        run = run_through(BANK, NIGHT, (('take', 'east', 2), ('credit', 'lone'), ('cut', 'east', 0, 0), ('take', 'east', 2),
                                        ('take', 'east', 1)))
        self.assertEqual((left_over(run), run.cuts), (16, ()))

    def test_bad_nights(self):
        for value in odd_values() + [list(NIGHT), NIGHT[:2], NIGHT + ((),), ()]:
            if not (isinstance(value, tuple) and len(value) == 3):
                self.refused(BadNight, None, Run, BANK, value)
                self.refused(BadNight, None, run_through, BANK, value, None)
        for _, texts in bad_texts() + [(0, (ONE,)), (0, ())]:
            self.refused(BadNight, 0, Run, BANK, (texts,) + NIGHT[1:])
            self.refused(BadNight, 0, run_through, BANK, (texts,) + NIGHT[1:], ())
        self.refused(BadNight, 1, Run, BANK, (NIGHT[0], (), None))
        self.refused(BadNight, 2, Run, BANK, ((ONE, TWO), (OTHER,), (OTHER,)))

    def test_no_branch(self):
        run = Run(BANK, NIGHT)
        for value in NO_NAMES:
            self.refused(NoBranch, value, run.shelf_of, value)
            self.refused(NoBranch, value, run.branch_at, value)


class OfCuts(Raising):

    def test_noted_until_the_next_call_there(self):
        run = Run(BANK, NIGHT)
        self.assertEqual([run.go_on(('cut', 'west', 2, 3)), run.go_on(('cut', 'east', 0, 7))], ['noted', 'noted'])
        self.assertEqual(run.cuts, (('cut', 'east', 0, 7), ('cut', 'west', 2, 3)))
        self.assertEqual(run.go_on(('cut', 'west', 1, 0)), 'noted')
        self.assertEqual(run.cuts, (('cut', 'east', 0, 7), ('cut', 'west', 1, 0)))
        self.assertEqual(run.go_on(('post', 'lone', 1)), 'done')
        self.assertEqual(run.go_on(('carry', 'west', 'lone', ())), 'done')
        self.assertEqual(len(run.cuts), 2)
        self.assertEqual(run.go_on(('carry', 'east', 'west', (1,))), 'cut')
        self.assertEqual(run.cuts, (('cut', 'east', 0, 7),))
        self.assertEqual(run.go_on(('carry', 'east', 'west', (1,))), 'done')
        self.assertEqual([run.go_on(('take', 'east', 1)), run.cuts, run.branch_at('east').taken], ['cut', (), 0])
        self.assertEqual([run.go_on(('take', 'east', 1)), run.branch_at('east').taken], ['done', 1])

    def test_a_call_that_raises_is_not_cut(self):
        run = Run(BANK, NIGHT)
        run.go_on(('cut', 'east', 0, 0))
        files = run.shelf_of('east').files
        self.refused(Early, 2, run.go_on, ('take', 'east', 2))
        self.refused(TooEarly, 'east', run.go_on, ('credit', 'east'))
        self.refused(BadCall, ('take', 'east', 3), run.go_on, ('take', 'east', 3))
        self.assertEqual((run.cuts, run.shelf_of('east').files), ((('cut', 'east', 0, 0),), files))
        self.assertEqual((run.go_on(('take', 'east', 1)), run.cuts), ('cut', ()))

    def test_a_call_that_does_nothing_is_cut(self):
        run = Run(BANK, NIGHT)
        run.go_on(('take', 'east', 1))
        run.go_on(('cut', 'east', 5, 5))
        files = run.shelf_of('east').files
        self.assertEqual((run.go_on(('take', 'east', 1)), run.cuts), ('cut', ()))
        self.assertEqual((run.shelf_of('east').files, run.shelf_of('east').log), (files, ()))

    def test_what_is_left_is_told_by_the_numbers(self):
        for at, call in enumerate(TO_DAWN):
            place = call[2] if call[0] == 'carry' else call[1]
            ahead = run_through(BANK, NIGHT, TO_DAWN[:at])
            files, many = ahead.shelf_of(place).files, len(ahead.shelf_of(place).log)
            whole = ahead.copy()
            whole.go_on(call)
            deeds = whole.shelf_of(place).log[many:]
            for count in list(range(len(deeds) + 2)) + [1000]:
                for number in (0, 1, 2, 3, 10 ** 6 + 1, 10 ** 12):
                    run = ahead.copy()
                    self.assertEqual((run.go_on(('cut', place, count, number)), run.go_on(call)), ('noted', 'cut'))
                    shelf = run.shelf_of(place)
                    self.assertEqual((shelf.files, shelf.log), (lefts(files, deeds[:count], number), ()))
                    for name in ('east', 'west', 'lone'):
                        if name != place:
                            self.assertEqual(run.shelf_of(name).files, ahead.shelf_of(name).files)
                    self.assertEqual(missing(run), 0)
                    self.assertIn(run.branch_at(place).row, [twin.branch_at(place).row for twin in (ahead, whole)])
                    self.assertEqual(run.go_on(call), 'done')
                    self.assertEqual(run.shelf_of(place).files, whole.shelf_of(place).files)

    def test_ways_of_several_files(self):
        for seed in range(200):
            files, deeds = model.drawn(seed)
            sure, later = model.parted(deeds)
            base = dict(model.done(files, sure))
            names = sorted({deed[1] for deed in later})
            ways = [model.ways(base.get(name), [deed for deed in later if deed[1] == name]) for name in names]
            for number in (0, 1, 5, 17, 1234, 10 ** 12):
                told = ways_numbered(tails_of(deeds), number)
                rest = number
                for way, found in zip(told, ways):
                    self.assertEqual(way, found[rest % len(found)][:2])
                    rest = rest // len(found)
                self.assertEqual(len(told), len(names))


class OfCopies(Raising):

    def test_shelves_and_branches_stand_alone(self):
        run = run_through(BANK, NIGHT, TO_DAWN[:2])
        shelf, branch = run.shelf_of('east'), run.branch_at('east')
        self.assertEqual((Branch(shelf).post(3), branch.post(6), branch.posted), (3, 6, 6))
        branch.take(ONE)
        self.assertEqual((run.branch_at('east').posted, run.shelf_of('east').log == shelf.log), (0, False))

    def test_copy(self):
        run = run_through(BANK, NIGHT, TO_DAWN[:4] + (('cut', 'west', 1, 1), ('cut', 'east', 0, 0)))
        twin = run.copy()
        self.assertIsInstance(twin, Run)
        self.assertTrue(twin.bank == run.bank and twin.night == run.night and twin.cuts == run.cuts)
        for name in ('east', 'west', 'lone'):
            self.assertEqual((twin.shelf_of(name).files, twin.shelf_of(name).log),
                             (run.shelf_of(name).files, run.shelf_of(name).log))
        told = (left_to_do(run), on_the_way(run), balances_of(run), left_over(run), run.cuts)
        while not is_dawn(twin):
            twin.go_on(left_to_do(twin)[0])
        twin.go_on(('cut', 'lone', 0, 0))
        self.assertEqual((left_to_do(run), on_the_way(run), balances_of(run), left_over(run), run.cuts), told)
        other = run.copy()
        while not is_dawn(run):
            run.go_on(left_to_do(run)[0])
        self.assertEqual((left_to_do(other), on_the_way(other), balances_of(other), left_over(other), other.cuts), told)

    def test_two_runs_have_nothing_in_common(self):
        one, other = Run(BANK, NIGHT), Run(BANK, NIGHT)
        one.go_on(('take', 'east', 1))
        one.go_on(('cut', 'east', 1, 1))
        self.assertEqual((left_over(other), other.cuts), (16, ()))


class OfGreatNights(Raising):

    def test_greatest_night(self):
        names = ('aaaaaaaa', 'bbbbbbbb', 'cccccccc', 'dddddddd', 'eeeeeeee', 'ffffffff')
        accounts = tuple((f'{name}.{other * 8}', 10 ** 15, 10 ** 15) for name in names for other in 'abcdefghij')
        bank = Bank(bank_text(tuple((name, 50) for name in names), accounts))
        night = tuple(tuple(batch_text(bank, number, name, tuple((f'{name}.aaaaaaaa', f'{names[(at + number) % 6]}.bbbbbbbb', 10 ** 12)
                                                                 for at in range(50))) for number in range(1, 51))
                      for name in names)
        run = Run(bank, night)
        self.assertEqual(missing(run), 0)
        self.assertLessEqual(len(left_to_do(run)), 300 + 30 + 12)
        for at in range(3):
            for call in left_to_do(run):
                place = call[2] if call[0] == 'carry' else call[1]
                run.go_on(('cut', place, at, at))
                try:
                    run.go_on(call)
                except (Early, TooEarly):
                    pass
            self.assertEqual(missing(run), 0)
        for call in left_to_do(run):
            run.go_on(call)
            self.assertEqual(missing(run), 0)
        self.assertEqual((is_dawn(run), balances_of(run)), (True, plain_balances(bank, night)))
