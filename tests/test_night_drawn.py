"""Drawn nights and rows of calls, cut or not: what point 7 tells FOR ALL of them."""

import unittest

from oncebooked.entries import Bank
from oncebooked.errors import Early, TooEarly
from oncebooked.night import balances_of, is_dawn, left_over, left_to_do, missing, on_the_way, Run, run_through
from oncebooked.plainly import plain_balances, plain_night
from tests import nights

DRAWS = range(150)
CALLS = 30


class Twin:
    """A night told by models of its branches, beside a Run."""

    def __init__(self, text, night):
        self.text = text
        self.night = dict(zip(nights.names_in(text), night))
        self.rows = nights.plain_rows(text, night)
        self.models = {name: nights.Model(text, name) for name in self.night}
        self.pairs = [(one, other) for one in self.night for other in self.night if one != other]

    def at_branch(self, call):
        """(name, call of section 6) for a call of section 7; raises TooEarly."""
        word, name = call[0], call[1]
        if word == 'take':
            return name, (word, self.night[name][call[2] - 1])
        if word == 'post':
            return name, (word, call[2])
        if word == 'carry':
            letters = {letter[0]: letter for letter in self.models[name].letters_to(call[2], 0)}
            return call[2], ('hear', name, tuple(letters[number] for number in call[3] if number in letters))
        if not self.models[name].is_credited:
            for other in self.models:
                if not self.has_booked_all(other):
                    raise TooEarly(other)
        return name, (word, tuple((other, len(nights.letters_in(self.rows[other], name)))
                                  for other in self.models if other != name))

    def has_booked_all(self, name):
        model = self.models[name]
        return model.taken == model.batches and model.posted == len(self.rows[name])

    def steps(self, call):
        """(name, steps) for a call, as the model of the branch tells them; raises as the call does."""
        name, own = self.at_branch(call)
        return name, self.models[name].behind(own)[0]

    def left_over(self):
        many = 0
        for name, model in self.models.items():
            many += model.batches - model.taken + len(self.rows[name]) - model.posted + (not model.is_credited)
        for one, other in self.pairs:
            many += len(nights.letters_in(self.rows[one], other)) - self.models[other].heard(one)
        return many

    def on_the_way(self):
        return tuple((one, other) + letter for one, other in self.pairs if not self.models[other].is_credited
                     for letter in self.models[one].letters_to(other, 0))

    def left_to_do(self):
        calls = [('take', name, number + 1) for name, model in self.models.items()
                 for number in range(model.taken, model.batches)]
        calls += [('post', name, len(self.rows[name])) for name, model in self.models.items()
                  if model.posted < len(self.rows[name])]
        for one, other in self.pairs:
            numbers = tuple(letter[0] for letter in nights.letters_in(self.rows[one], other)
                            if letter[0] > self.models[other].heard(one))
            calls += [('carry', one, other, numbers)] if numbers else []
        return tuple(calls + [('credit', name) for name, model in self.models.items() if not model.is_credited])

    def balances(self):
        told = dict(pair for model in self.models.values() for pair in model.balances)
        return tuple((account, told[account]) for account in nights.accounts_in(self.text))

    def stand(self, name):
        return nights.stand(self.models[name], self.models[name].others)


def drawn_call(draw, bank, run):
    names = [name for name, _ in bank.branches]
    name = draw.choice(names)
    batches = dict(bank.branches)[name]
    word = draw.choice(('take', 'take', 'post', 'post', 'carry', 'carry', 'carry', 'credit', 'cut', 'left'))
    if word == 'take' and batches:
        return (word, name, draw.randint(1, batches))
    if word == 'carry' and len(names) > 1:
        other = draw.choice([other for other in names if other != name])
        many = len(run.branch_at(name).letters_to(other, 0))
        return (word, name, other, nights.drawn_row(draw, range(1, many + 3)))
    if word == 'credit':
        return (word, name)
    if word == 'cut':
        return (word, name, draw.choice((0, 1, 1, 1, 2, 3)), draw.randrange(1000))
    if word == 'left' and not is_dawn(run):
        return left_to_do(run)[0]
    return ('post', name, draw.randint(0, 9))


class Drawn(unittest.TestCase):

    def agrees(self, run, twin):
        """Whatever the run tells is what the models tell, and what is told FOR ALL."""
        self.assertEqual(missing(run), 0)
        for name, row in twin.rows.items():
            branch = run.branch_at(name)
            self.assertEqual(nights.stand(branch, twin.models[name].others), twin.stand(name))
            self.assertEqual(branch.row, row[:branch.posted])
        self.assertEqual((left_over(run), on_the_way(run), left_to_do(run), balances_of(run)),
                         (twin.left_over(), twin.on_the_way(), twin.left_to_do(), twin.balances()))
        self.assertIs(is_dawn(run), twin.left_over() == 0)

    def one_call(self, run, twin, call):
        """Does the call in both; whether it was cut."""
        before = left_over(run)
        try:
            name, steps = (call[1], []) if call[0] == 'cut' else twin.steps(call)
        except (Early, TooEarly) as error:
            with self.assertRaises(type(error)) as caught:
                run.go_on(call)
            self.assertEqual(caught.exception.value, error.value)
            self.assertEqual(left_over(run), before)
            return False
        cuts = dict((cut[1], cut) for cut in run.cuts)
        told = run.go_on(call)
        if call[0] == 'cut':
            cuts[name] = call
        self.assertEqual(told, 'noted' if call[0] == 'cut' else 'cut' if name in cuts else 'done')
        if told != 'noted':
            cuts.pop(name, None)
            self.settles(run, twin, name, steps, told)
        self.assertEqual(run.cuts, tuple(cuts[other] for other in twin.models if other in cuts))
        if told == 'done' and len(steps) > 1 and nights.stand(steps[0], steps[0].others) != twin.stand(name):
            self.assertLess(left_over(run), before)
        elif told != 'cut':
            self.assertEqual(left_over(run), before)
        return told == 'cut'

    def settles(self, run, twin, name, steps, told):
        """Puts the model as the run's branch stands: as behind the call, or, if it was cut, amid it."""
        if told == 'done':
            twin.models[name] = steps[-1]
            return
        branch = run.branch_at(name)
        stands = nights.stand(branch, twin.models[name].others)
        found = [step for step in steps if nights.stand(step, step.others) == stands]
        self.assertTrue(found)
        twin.models[name] = found[0]

    def leads_to_dawn(self, run, bank, night):
        twin = run.copy()
        # So that none of the calls that lead to dawn is cut.
        for cut in twin.cuts:
            self.assertEqual(twin.go_on(('post', cut[1], 0)), 'cut')
        calls = left_to_do(twin)
        many = len(bank.branches)
        self.assertLessEqual(len(calls), sum(batches for _, batches in bank.branches) + many * (many - 1) + 2 * many)
        for call in calls:
            self.assertEqual(twin.go_on(call), 'done')
        self.is_plain(twin, bank, night)
        return twin

    def is_plain(self, run, bank, night):
        self.assertEqual((is_dawn(run), left_over(run), left_to_do(run), on_the_way(run)), (True, 0, (), ()))
        self.assertEqual(balances_of(run), plain_balances(bank, night))
        self.assertEqual(tuple(run.branch_at(name).row for name, _ in bank.branches), plain_night(bank, night))

    def test_rows_of_calls(self):
        cut = 0
        for seed in DRAWS:
            draw, text, night = nights.drawn(seed, 3 if seed % 5 else 6)
            bank = Bank(text)
            run, twin, calls = Run(bank, night), Twin(text, night), []
            for _ in range(CALLS):
                calls.append(drawn_call(draw, bank, run))
                cut += self.one_call(run, twin, calls[-1])
                self.agrees(run, twin)
            self.leads_to_dawn(run, bank, night)
            again = run_through(bank, night, tuple(calls))
            self.assertEqual(again.cuts, run.cuts)
            for name in twin.models:
                self.assertEqual((again.shelf_of(name).files, again.shelf_of(name).log),
                                 (run.shelf_of(name).files, run.shelf_of(name).log))
        self.assertGreater(cut, 300)

    def test_dawn_comes_behind_every_single_call(self):
        for seed in range(60):
            draw, text, night = nights.drawn(seed, 3)
            bank = Bank(text)
            run = Run(bank, night)
            for _ in range(12):
                try:
                    run.go_on(drawn_call(draw, bank, run))
                except (Early, TooEarly):
                    pass
                self.leads_to_dawn(run, bank, night)

    def test_dawn_stays_whatever_calls_come(self):
        for seed in range(60):
            draw, text, night = nights.drawn(seed, 3)
            bank = Bank(text)
            run = self.leads_to_dawn(Run(bank, night), bank, night)
            for _ in range(15):
                run.go_on(drawn_call(draw, bank, run))
                self.assertEqual(missing(run), 0)
            self.is_plain(run, bank, night)

    def test_dawn_comes_though_each_call_is_cut_first(self):
        for seed in range(60):
            draw, text, night = nights.drawn(seed, 3)
            bank = Bank(text)
            run = Run(bank, night)
            while not is_dawn(run):
                call = left_to_do(run)[0]
                place = call[2] if call[0] == 'carry' else call[1]
                for _ in range(4):
                    self.assertEqual(run.go_on(('cut', place, draw.randrange(4), draw.randrange(9))), 'noted')
                    self.assertEqual(run.go_on(call), 'cut')
                    self.assertEqual(missing(run), 0)
                self.assertEqual(run.go_on(call), 'done')
            self.is_plain(run, bank, night)
