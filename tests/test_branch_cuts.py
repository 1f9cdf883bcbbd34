"""What a cut leaves of a branch, whatever call it comes amid, and how all goes on from there."""

import random
import unittest

from oncebooked.branch import Branch, lies_there, new_branch
from oncebooked.entries import Bank
from oncebooked.errors import Differs, Early, TooEarly
from oncebooked.plainly import plain_balances
from oncebooked.shelves import all_left, cuts_many, nth_left, pending, Shelf
from tests import nights

DRAWS = range(300)
STEPS = 14
# More ways than these are drawn from.
MOST_WAYS = 200


def all_cuts(draw, files, deeds):
    """All files, or many that are drawn, that a cut behind some of the deeds can leave."""
    found = []
    for many in range(len(deeds) + 1):
        ways = cuts_many(files, deeds[:many])
        if ways <= MOST_WAYS:
            found += all_left(files, deeds[:many])
        else:
            found += [nth_left(files, deeds[:many], draw.randrange(min(ways, 10 ** 9))) for _ in range(MOST_WAYS)]
    return found


class Place:
    """One branch of a drawn night, with the letters that it gets."""

    def __init__(self, seed):
        self.draw, self.text, self.night = nights.drawn(seed)
        self.bank = Bank(self.text)
        self.name, self.batches = self.draw.choice(nights.branches_in(self.text))
        names = nights.names_in(self.text)
        self.texts = self.night[names.index(self.name)]
        self.others = [name for name in names if name != self.name]
        rows = nights.plain_rows(self.text, self.night)
        self.row = rows[self.name]
        self.letters = {other: nights.letters_in(rows[other], self.name) for other in self.others}
        self.first = nights.Model(self.text, self.name)

    def numbers(self):
        return tuple((other, len(self.letters[other])) for other in self.others)

    def drawn_call(self):
        word = self.draw.choice(('take', 'take', 'post', 'post', 'hear', 'hear', 'credit'))
        if word == 'take' and self.texts:
            text = self.draw.choice(self.texts)
            if self.draw.random() < 0.1:
                text = nights.batch_of(self.draw.randint(1, self.batches), self.name, [])
            return (word, text)
        if word == 'hear' and self.others:
            other = self.draw.choice(self.others)
            return (word, other, nights.drawn_row(self.draw, self.letters[other]))
        if word == 'credit':
            # Never fewer than there are: credit believes its numbers, and all would be at dawn too soon.
            return (word, tuple((other, number + self.draw.choice((0, 0, 0, 1))) for other, number in self.numbers()))
        return ('post', self.draw.choice((0, 1, 2, 3, 5, 100)))

    def to_dawn(self):
        """Calls that bring such a branch to dawn."""
        calls = [('take', text) for text in self.texts]
        calls += [('post', 10 ** 6)] + [('hear', other, self.letters[other]) for other in self.others]
        return calls + [('credit', self.numbers())]

    def balances(self):
        return tuple(pair for pair in plain_balances(self.bank, self.night) if nights.lies_at(pair[0], self.name))


def done(branch, call):
    """What the call returns, or the kind and the value of its error."""
    try:
        return getattr(branch, call[0])(*call[1:])
    except (Early, Differs, TooEarly) as error:
        return type(error), error.value


def done_by_model(model, call):
    """(steps, told), in the same way."""
    try:
        return model.behind(call)
    except (Early, Differs, TooEarly) as error:
        return [model], (type(error), error.value)


class Cuts(unittest.TestCase):

    def stands(self, place, files, steps):
        """The step as which the branch stands that lies on these files."""
        shelf = Shelf(files)
        self.assertTrue(lies_there(shelf))
        branch = Branch(shelf)
        told = nights.stand(branch, place.others)
        found = [step for step in steps if nights.stand(step, place.others) == told]
        self.assertTrue(found, (told, [nights.stand(step, place.others) for step in steps]))
        self.assertTrue(branch.bank == place.bank)
        self.assertEqual(shelf.log, ())
        return found[0]

    def goes_on(self, place, files, call, model):
        """The same call, called again twice on what was left."""
        shelf = Shelf(files)
        branch = Branch(shelf)
        for _ in range(2):
            many = len(shelf.log)
            steps, told = done_by_model(model, call)
            self.assertEqual(done(branch, call), told)
            self.assertEqual(nights.stand(branch, place.others), nights.stand(steps[-1], place.others))
            self.assertEqual(pending(files, shelf.log), ())
            if nights.stand(model, place.others) == nights.stand(steps[-1], place.others):
                self.assertEqual(len(shelf.log), many)
            model = steps[-1]

    def comes_to_dawn(self, place, files, model):
        shelf = Shelf(files)
        branch = Branch(shelf)
        differing = any(text != own for text, own in zip(model.texts, place.texts))
        for call in place.to_dawn():
            done(branch, call)
        if not differing:
            self.assertTrue(branch.is_credited)
            self.assertEqual((branch.row, branch.balances), (place.row, place.balances()))

    def one_call(self, place, files, model, call):
        """(files, model): one of the ways that are left when the call is cut or not."""
        steps, told = done_by_model(model, call)
        shelf = Shelf(files)
        branch = Branch(shelf)
        self.assertEqual(done(branch, call), told)
        self.assertEqual(nights.stand(branch, place.others), nights.stand(steps[-1], place.others))
        self.assertEqual(pending(files, shelf.log), ())
        if len(steps) == 1:
            self.assertEqual(shelf.log, ())
        lefts = all_cuts(place.draw, files, shelf.log)
        behind = [self.stands(place, left, steps) for left in lefts]
        for left, step in dict(zip(lefts, behind)).items():
            self.goes_on(place, left, call, step)
            self.comes_to_dawn(place, left, step)
        if place.draw.random() < 0.5:
            return place.draw.choice(list(zip(lefts, behind)))
        return shelf.files, steps[-1]

    def test_each_call_of_drawn_rows(self):
        for seed in DRAWS:
            place = Place(seed)
            shelf = Shelf(())
            new_branch(shelf, place.bank, place.name)
            files, model = shelf.files, place.first
            for _ in range(STEPS):
                files, model = self.one_call(place, files, model, place.drawn_call())
            self.comes_to_dawn(place, files, model)

    def test_new_branch(self):
        for seed in DRAWS:
            place = Place(seed)
            whole = Shelf(())
            new_branch(whole, place.bank, place.name)
            self.assertEqual(pending((), whole.log), ())
            for left in all_cuts(place.draw, (), whole.log):
                shelf = Shelf(left)
                if lies_there(shelf):
                    self.stands(place, left, [place.first])
                new_branch(shelf, place.bank, place.name)
                self.assertEqual(pending(left, shelf.log), ())
                self.stands(place, shelf.files, [place.first])
                self.comes_to_dawn(place, shelf.files, place.first)

    def test_the_same_call_is_cut_again_and_again(self):
        for seed in DRAWS:
            place = Place(seed)
            shelf = Shelf(())
            new_branch(shelf, place.bank, place.name)
            files, model = shelf.files, place.first
            for call in place.to_dawn():
                for _ in range(6):
                    steps, _ = done_by_model(model, call)
                    cut = Shelf(files)
                    done(Branch(cut), call)
                    files = place.draw.choice(all_cuts(place.draw, files, cut.log))
                    model = self.stands(place, files, steps)
                whole = Shelf(files)
                done(Branch(whole), call)
                files, model = whole.files, done_by_model(model, call)[0][-1]
            self.assertTrue(model.is_credited)
            self.assertEqual((Branch(Shelf(files)).row, Branch(Shelf(files)).balances), (place.row, place.balances()))

    def test_thousands_of_cuts_of_a_branch_with_all_it_can_have(self):
        draw = random.Random(7)
        text = '\n'.join(['branch east 50', 'branch west 50', 'account east.ann 1000 50', 'account west.bob 1000 0',
                          'account east.cid 0 9'])
        bank = Bank(text)
        accounts = ('east.ann', 'west.bob', 'east.cid')
        night = tuple(tuple(nights.batch_of(number, name, [(payer, payee, draw.randint(1, 60)) for payer, payee in
                                                           (draw.sample(accounts, 2) for _ in range(100))
                                                           if nights.lies_at(payer, name)][:50])
                            for number in range(1, 51)) for name in ('east', 'west'))
        whole = Shelf(())
        new_branch(whole, bank, 'west')
        west = Branch(whole)
        for batch in night[1]:
            west.take(batch)
        west.post(10 ** 6)
        letters = west.letters_to('east', 0)
        shelf = Shelf(())
        new_branch(shelf, bank, 'east')
        calls = [('take', batch) for batch in night[0]] + [('post', upto) for upto in range(0, 2501, 5)]
        calls += [('hear', 'west', letters[at:at + 40]) for at in range(0, len(letters), 9)]
        for call in calls + [('credit', (('west', len(letters)),))]:
            for _ in range(draw.randrange(5)):
                cut = Shelf(shelf.files)
                getattr(Branch(cut), call[0])(*call[1:])
                many = draw.randrange(len(cut.log) + 1)
                shelf = Shelf(nth_left(shelf.files, cut.log[:many], draw.randrange(10 ** 9)))
            getattr(Branch(shelf), call[0])(*call[1:])
            shelf = Shelf(shelf.files)
        told = tuple(pair for pair in plain_balances(bank, night) if nights.lies_at(pair[0], 'east'))
        self.assertEqual(Branch(shelf).balances, told)
