import random

from oncebooked.desk import Desk, desk_text, read_desk
from oncebooked.entries import Bank
from oncebooked.errors import BadBank, BadCall, BadDeed, BadName, BadNight, BookError, Early, Held, NoName, NoNote
from oncebooked.errors import NothingToRedo, NothingToUndo, NotThat, TooEarly
from oncebooked.night import balances_of, is_dawn, left_over, left_to_do, on_the_way, Run
from oncebooked.plainly import plain_balances
from tests import nights
from tests.test_shelves import Raising
from tests.values import odd_values, same

TEXT = 'branch east 1\nbranch west 0\naccount east.ann 50 0\naccount west.cid 7 0'
ONE = 'batch 1 east 2 70\nentry east.ann west.cid 30\nentry east.ann west.cid 40'
NIGHT = ((ONE,), ())
TAKE = ('call', 'n', ('take', 'east', 1))
POST = ('call', 'n', ('post', 'east', 2))
CUT = ('call', 'n', ('cut', 'east', 1, 0))
FIRST = (('bank', 'b', TEXT), ('night', 'n', 'b', NIGHT))


def led(*deeds):
    desk = Desk()
    for deed in deeds:
        desk.lead(deed)
    return desk


def stand_of(thing):
    """All that can be told of a thing."""
    if isinstance(thing, Bank):
        return thing.text
    names = [name for name, _ in thing.bank.branches]
    shelves = [(thing.shelf_of(name).files, thing.shelf_of(name).log) for name in names]
    branches = [nights.stand(thing.branch_at(name), [other for other in names if other != name]) for name in names]
    return (thing.bank.text, thing.night, thing.cuts, shelves, branches, balances_of(thing), on_the_way(thing), left_over(thing),
            left_to_do(thing))


def things_of(desk):
    return {name: (desk.thing_kind(name), stand_of(desk.thing_of(name)), desk.balances_at(name)) for name in desk.names}


def whole(desk):
    return things_of(desk), desk.all_deeds(), desk.notes(), desk.names, len(desk)


class Plain:
    """A journal of deeds in memory; the things are worked out anew from those that stand."""

    def __init__(self):
        self.deeds, self.many, self.marks = [], 0, {}

    def lead(self, deed):
        self.marks = {word: number for word, number in self.marks.items() if number <= self.many}
        self.deeds[self.many:] = [deed]
        self.many += 1

    def things(self):
        """The things, each deed done on Banks and Runs themselves."""
        found = {}
        for word, name, *parts in self.deeds[:self.many]:
            if word == 'bank':
                found[name] = Bank(parts[0])
            if word == 'night':
                found[name] = Run(found[parts[0]], parts[1])
            if word == 'call':
                found[name].go_on(parts[0])
            if word == 'copy':
                found[parts[0]] = found[name] if isinstance(found[name], Bank) else found[name].copy()
            if word == 'drop':
                del found[name]
            while word == 'dawn' and not is_dawn(found[name]):
                found[name].go_on(left_to_do(found[name])[0])
        return {name: stand_of(thing) for name, thing in found.items()}


def drawn_call(draw, bank):
    branches = dict(nights.branches_in(bank))
    name = draw.choice(list(branches))
    word = draw.choice(('take', 'take', 'post', 'post', 'carry', 'credit', 'cut', 'cut'))
    if word == 'take':
        return (word, name, draw.randint(1, max(1, min(2, branches[name]))))
    if word == 'carry':
        numbers = tuple(draw.choice((1, 2, 3)) for _ in range(draw.randint(0, 3)))
        return (word, name, draw.choice(list(branches)), numbers)
    if word == 'cut':
        return (word, name, draw.randint(0, 3), draw.choice((0, 1, 5, 10 ** 12)))
    return (word, name) if word == 'credit' else (word, name, draw.randint(0, 4))


class Drawer:
    """Draws deeds for a desk, of which most can be done."""

    def __init__(self, seed):
        self.draw = random.Random(seed)
        self.nights = {bank: night for _, bank, night in [nights.drawn(seed * 100 + at, 2) for at in range(3)]}

    def named(self, desk, kind):
        """Mostly the name of a thing of this kind."""
        names = [name for name in desk.names if desk.thing_kind(name) == kind]
        return self.draw.choice(names) if names and self.draw.random() < 0.95 else self.draw.choice('pqrstu')

    def fresh(self, desk):
        """Mostly a new name."""
        names = [name for name in 'pqrstu' if name not in desk]
        return self.draw.choice(names) if names and self.draw.random() < 0.9 else self.draw.choice('pqrstu')

    def deed(self, desk):
        draw = self.draw
        kinds = [desk.thing_kind(name) for name in desk.names]
        word = 'bank' if 'bank' not in kinds else 'night' if 'night' not in kinds else draw.choice(
            ('bank', 'night', 'night', 'copy', 'copy', 'drop', 'dawn') + ('call',) * 16)
        if word == 'bank':
            return (word, self.fresh(desk), draw.choice(list(self.nights)))
        if word == 'night':
            bank = self.named(desk, 'bank')
            thing = desk.thing_of(bank) if bank in desk else None
            night = self.nights.get(thing.text, ()) if isinstance(thing, Bank) else draw.choice(list(self.nights.values()))
            return (word, self.fresh(desk), bank, night)
        name = self.named(desk, 'night')
        if word == 'call':
            thing = desk.thing_of(name) if name in desk else None
            bank = thing.bank.text if isinstance(thing, Run) else draw.choice(list(self.nights))
            return (word, name, drawn_call(draw, bank))
        if word == 'copy':
            return (word, draw.choice(desk.names), self.fresh(desk))
        return (word, name if word == 'dawn' else draw.choice(desk.names))


class OfADesk(Raising):

    def test_new(self):
        desk = Desk()
        self.assertTrue(same((desk.names, len(desk), desk.notes(), desk.all_deeds()), ((), 0, (), ((), ()))))
        self.assertEqual(desk_text(desk), 'stand 0')
        self.refused(NothingToUndo, 0, desk.undo)
        self.refused(NothingToRedo, 0, desk.redo)
        self.assertIs('b' in desk, False)

    def test_things(self):
        desk = led(*FIRST, ('bank', 'a', TEXT))
        self.assertTrue(same((desk.names, len(desk)), (('a', 'b', 'n'), 3)))
        self.assertEqual([desk.thing_kind(name) for name in desk.names], ['bank', 'bank', 'night'])
        self.assertEqual((desk.thing_of('b'), desk.thing_of('n').bank, desk.thing_of('n').night), (Bank(TEXT), Bank(TEXT), NIGHT))
        self.assertIsInstance(desk.thing_of('n'), Run)
        self.assertEqual([desk.balances_at(name) for name in desk.names], [(('east.ann', 50), ('west.cid', 7))] * 3)
        self.assertEqual(desk.left('n'), 6)
        for value in odd_values() + ['c', ('a',)]:
            self.assertIs(value in desk, value == 'a' and isinstance(value, str))
        self.assertIs('n' in desk, True)

    def test_what_is_done_with_a_thing_does_not_change_the_desk(self):
        desk = led(*FIRST, TAKE)
        run = desk.thing_of('n')
        ahead = stand_of(run)
        run.go_on(('post', 'east', 2))
        run.go_on(('cut', 'west', 0, 0))
        self.assertEqual((stand_of(desk.thing_of('n')), desk.left('n')), (ahead, 5))
        desk.lead(POST)
        self.assertEqual((desk.left('n'), left_over(run), run.cuts), (3, 3, (('cut', 'west', 0, 0),)))

    def test_a_run_keeps_its_bank(self):
        desk = led(*FIRST, ('drop', 'b'), ('bank', 'b', 'branch x 0'), TAKE, ('dawn', 'n'))
        self.assertEqual(desk.balances_at('n'), (('east.ann', 20), ('west.cid', 37)))
        self.assertEqual((desk.balances_at('b'), desk.thing_of('n').bank.text), ((), TEXT))

    def test_copies_stand_alone(self):
        desk = led(*FIRST, TAKE, CUT, ('copy', 'n', 'm'), ('copy', 'b', 'c'))
        self.assertEqual(desk.names, ('b', 'c', 'm', 'n'))
        self.assertEqual(stand_of(desk.thing_of('n')), stand_of(desk.thing_of('m')))
        desk.lead(POST)
        self.assertEqual([desk.thing_of(name).cuts for name in 'mn'], [(('cut', 'east', 1, 0),), ()])
        desk.lead(('dawn', 'm'))
        self.assertEqual([desk.left('m'), desk.left('n') > 0, desk.thing_of('m').cuts], [0, True, ()])
        desk.lead(('drop', 'n'))
        self.assertEqual((desk.names, desk.balances_at('m')), (('b', 'c', 'm'), (('east.ann', 20), ('west.cid', 37))))
        self.assertEqual(desk.thing_of('c'), Bank(TEXT))

    def test_dawn(self):
        for seed in range(30):
            draw, bank, night = nights.drawn(seed)
            desk = led(('bank', 'b', bank), ('night', 'n', 'b', night))
            for _ in range(draw.randint(0, 6)):
                try:
                    desk.lead(('call', 'n', drawn_call(draw, bank)))
                except BookError:
                    pass
            desk.lead(('dawn', 'n'))
            self.assertEqual((desk.left('n'), desk.balances_at('n')), (0, plain_balances(Bank(bank), night)))
            ahead = things_of(desk)
            desk.lead(('dawn', 'n'))
            self.assertEqual(things_of(desk), ahead)

    def test_undo_redo(self):
        desk = led(*FIRST, TAKE)
        rows = [things_of(led(*(FIRST + (TAKE,))[:many])) for many in range(4)]
        for many in (2, 1, 0):
            self.assertIsNone(desk.undo())
            self.assertEqual((things_of(desk), desk.all_deeds()), (rows[many], ((FIRST + (TAKE,))[:many], (FIRST + (TAKE,))[many:])))
        self.refused(NothingToUndo, 0, desk.undo)
        for many in (1, 2, 3):
            self.assertIsNone(desk.redo())
            self.assertEqual(things_of(desk), rows[many])
        self.refused(NothingToRedo, 3, desk.redo)
        desk.undo()
        desk.lead(('drop', 'b'))
        self.refused(NothingToRedo, 3, desk.redo)
        self.assertEqual(desk.all_deeds(), (FIRST + (('drop', 'b'),), ()))

    def test_an_undone_deed_leaves_nothing(self):
        desk = led(*FIRST, CUT)
        ahead = things_of(desk)
        desk.lead(TAKE)
        self.assertEqual((desk.thing_of('n').cuts, desk.thing_of('n').branch_at('east').taken), ((), 0))
        desk.undo()
        self.assertEqual(things_of(desk), ahead)
        self.assertEqual(desk.thing_of('n').cuts, (('cut', 'east', 1, 0),))
        desk.undo()
        self.assertEqual(things_of(desk), things_of(led(*FIRST)))

    def test_notes(self):
        desk = led(*FIRST)
        self.assertIsNone(desk.note('two'))
        desk.lead(TAKE)
        self.assertIsNone(desk.note('three'))
        desk.lead(POST)
        desk.note('four')
        self.assertTrue(same(desk.notes(), (('four', 4), ('three', 3), ('two', 2))))
        self.assertIsNone(desk.back('two'))
        self.assertEqual((len(desk.all_deeds()[0]), len(desk.notes())), (2, 3))
        self.assertIsNone(desk.back('four'))
        self.assertEqual(desk.left('n'), 3)
        desk.back('three')
        desk.back('three')
        self.assertEqual((len(desk.all_deeds()[0]), desk.left('n')), (3, 5))
        # A deed behind three ones: the note for four is forgotten, that for three stays.
        desk.lead(CUT)
        self.assertEqual(desk.notes(), (('three', 3), ('two', 2)))
        self.refused(NoNote, 'four', desk.back, 'four')
        desk.note('two')
        self.assertEqual(desk.notes(), (('three', 3), ('two', 4)))
        desk.undo()
        desk.undo()
        desk.undo()
        desk.note('one')
        self.refused(NoName, 'x', desk.lead, ('drop', 'x'))
        self.assertEqual(desk.notes(), (('one', 1), ('three', 3), ('two', 4)))
        desk.lead(('drop', 'b'))
        self.assertEqual(desk.notes(), (('one', 1),))


class OfErrors(Raising):

    def test_bad_deeds(self):
        desk = led(*FIRST)
        for value in [value for value in odd_values()] + [
                ['bank', 'x', TEXT], ('bank', 'x'), ('bank', 'x', TEXT, 1), ('night', 'x', 'b'), ('night', 'x', 'b', NIGHT, 1),
                ('call', 'n'), ('call', 'n', 'take', 'east', 1), ('dawn',), ('dawn', 'n', 1), ('copy', 'n'), ('copy', 'n', 'm', 1),
                ('drop',), ('drop', 'n', 1), ('Drop', 'n'), ('undo',), ('note', 'x'), (('drop',), 'n'), (['drop'], 'n'), (1, 'n'),
                (None, 'n'), ('', 'n'), 'drop']:
            self.refused(BadDeed, value, desk.lead, value)

    def test_names_that_are_none(self):
        desk = led(*FIRST)
        for value in [value for value in odd_values() if value != 'a' or not isinstance(value, str)] + ['x', 'B', 'b ']:
            for deed in (('call', value, None), ('dawn', value), ('copy', value, None), ('drop', value)):
                self.refused(NoName, value, desk.lead, deed)
            self.refused(NoName, value, desk.lead, ('night', 'x', value, None))
            for function in (desk.thing_kind, desk.thing_of, desk.balances_at, desk.left):
                self.refused(NoName, value, function, value)

    def test_things_that_are_not_that(self):
        desk = led(*FIRST)
        self.refused(NotThat, 'n', desk.lead, ('night', 'x', 'n', None))
        self.refused(NotThat, 'b', desk.lead, ('call', 'b', None))
        self.refused(NotThat, 'b', desk.lead, ('dawn', 'b'))
        self.refused(NotThat, 'b', desk.left, 'b')

    def test_new_names(self):
        desk = led(*FIRST)
        for value in odd_values() + ['B', 'abcdefghi', 'b ', 'b.b']:
            if value != 'a' and value != 'add' and value != 'sync' or not isinstance(value, str):
                self.refused(BadName, value, desk.lead, ('bank', value, None))
                self.refused(BadName, value, desk.lead, ('night', value, None, None))
                self.refused(BadName, value, desk.lead, ('copy', 'n', value))
                self.refused(BadName, value, desk.note, value)
        for name in ('b', 'n'):
            self.refused(Held, name, desk.lead, ('bank', name, None))
            self.refused(Held, name, desk.lead, ('night', name, None, None))
            self.refused(Held, name, desk.lead, ('copy', 'n', name))
        self.refused(NoName, 'x', desk.lead, ('copy', 'x', 'b'))

    def test_what_stands_behind_the_names(self):
        desk = led(*FIRST)
        self.refused(BadBank, 0, desk.lead, ('bank', 'x', None))
        self.refused(BadBank, 2, desk.lead, ('bank', 'x', 'branch a 0\n'))
        self.refused(BadNight, None, desk.lead, ('night', 'x', 'b', None))
        self.refused(BadNight, 0, desk.lead, ('night', 'x', 'b', ((), ())))
        self.refused(BadNight, 1, desk.lead, ('night', 'x', 'b', ((ONE,), (ONE,))))
        for value in odd_values():
            self.refused(BadCall, value, desk.lead, ('call', 'n', value))
        self.refused(TooEarly, 'east', desk.lead, ('call', 'n', ('credit', 'west')))
        two = led(('bank', 'b', 'branch a 2'), ('night', 'n', 'b', (('batch 1 a 0 0', 'batch 2 a 0 0'),)))
        self.refused(Early, 2, two.lead, ('call', 'n', ('take', 'a', 2)))

    def test_notes_that_are_none(self):
        desk = led(*FIRST)
        desk.note('here')
        for value in odd_values() + ['there', ('here',)]:
            self.refused(NoNote, value, desk.back, value)

    def test_a_call_that_raises_changes_nothing(self):
        desk = led(*FIRST, TAKE, POST)
        desk.note('all')
        desk.undo()
        ahead = whole(desk)
        for deed in (('drop', 'x'), ('bank', 'b', TEXT), ('call', 'n', ('credit', 'east')), ('call', 'n', None), None,
                     ('night', 'x', 'b', None), ('copy', 'n', 'b'), ('bank', 'x', '')):
            self.assertRaises(BookError, desk.lead, deed)
            self.assertEqual(whole(desk), ahead)
        self.assertRaises(NoNote, desk.back, 'none')
        self.assertRaises(BadName, desk.note, '')
        self.assertEqual(whole(desk), ahead)
        self.assertIsNone(desk.redo())


class OfJournals(Raising):

    def walk(self, seed, many):
        """Leads a desk and a plain journal by the same drawn deeds, and yields both now and then."""
        drawer, desk, plain = Drawer(seed), Desk(), Plain()
        draw = drawer.draw
        for turn in range(many):
            kind = draw.choice(('lead',) * 8 + ('undo', 'undo', 'redo', 'redo', 'note', 'back'))
            if kind == 'lead':
                deed = drawer.deed(desk)
                try:
                    desk.lead(deed)
                except BookError:
                    continue
                plain.lead(deed)
            if kind == 'undo' and plain.many:
                self.assertIsNone(desk.undo())
                plain.many -= 1
            if kind == 'redo' and plain.many < len(plain.deeds):
                self.assertIsNone(desk.redo())
                plain.many += 1
            if kind == 'note':
                word = draw.choice('uvw')
                desk.note(word)
                plain.marks[word] = plain.many
            if kind == 'back' and plain.marks:
                word = draw.choice(list(plain.marks))
                self.assertIsNone(desk.back(word))
                plain.many = plain.marks[word]
            if turn % 5 == 0 or turn == many - 1:
                yield desk, plain

    def test_beside_a_plain_journal(self):
        for seed in range(50):
            for desk, plain in self.walk(seed, 60):
                self.assertEqual({name: told[1] for name, told in things_of(desk).items()}, plain.things())
                self.assertEqual(desk.all_deeds(), (tuple(plain.deeds[:plain.many]), tuple(plain.deeds[plain.many:])))
                self.assertEqual(desk.notes(), tuple(sorted(plain.marks.items())))
                self.assertEqual(desk.names, tuple(sorted(plain.things())))

    def test_there_and_back(self):
        for seed in range(50, 90):
            for desk, _ in self.walk(seed, 50):
                text = desk_text(desk)
                other = read_desk(text)
                self.assertEqual((whole(other), desk_text(other)), (whole(desk), text))
            # Both go on alike.
            other = read_desk(desk_text(desk))
            drawer = Drawer(seed)
            for _ in range(10):
                deed = drawer.deed(desk)
                told = []
                for one in (desk, other):
                    try:
                        told.append(one.lead(deed))
                    except BookError as error:
                        told.append((type(error), error.value))
                self.assertTrue(same(told[0], told[1]))
                self.assertEqual((whole(other), desk_text(other)), (whole(desk), desk_text(desk)))
            while desk.all_deeds()[0]:
                self.assertEqual((desk.undo(), other.undo()), (None, None))
                self.assertEqual(things_of(other), things_of(desk))

    def test_many_deeds(self):
        bank = 'branch a 10\nbranch b 10\naccount a.x 9 0\naccount b.y 9 0'
        night = (tuple(f'batch {at} a 1 1\nentry a.x b.y 1' for at in range(1, 11)), tuple(f'batch {at} b 0 0' for at in range(1, 11)))
        desk = led(('bank', 'b', bank), ('night', 'n', 'b', night))
        for turn in range(400):
            desk.lead(('call', 'n', ('take', 'a', 1 + turn // 40)))
            desk.lead(('call', 'n', ('post', 'a', turn // 40)))
        desk.note('end')
        left = desk.left('n')
        for _ in range(800):
            desk.undo()
        self.assertEqual((desk.left('n'), len(desk.all_deeds()[1])), (10 + 10 + 10 + 9 + 2, 800))
        text = desk_text(desk)
        other = read_desk(text)
        self.assertEqual(desk_text(other), text)
        for one in (desk, other):
            one.back('end')
            self.assertEqual((one.left('n'), len(one.all_deeds()[0])), (left, 802))
