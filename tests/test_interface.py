import inspect
import unittest

from oncebooked import branch, days, desk, entries, interest, marks, match, night, plainly, plans, runners, settling, shelves
from oncebooked import statements
from oncebooked.entries import accounts_of, Bank, bank_text, Batch, batch_text, branch_of, is_entry
from oncebooked.days import Day
from oncebooked.desk import Desk
from oncebooked.interest import Accrual
from oncebooked.night import Run
from oncebooked.runners import Steps
from oncebooked.shelves import Shelf

FUNCTIONS = {
    shelves: {
        'is_line': ['value'], 'is_deed': ['value'], 'are_files': ['value'],
        'done_deeds': ['files', 'deeds'], 'pending': ['files', 'deeds'],
        'left_by': ['files', 'deeds', 'choices'], 'cuts_many': ['files', 'deeds'],
        'nth_left': ['files', 'deeds', 'number'], 'all_left': ['files', 'deeds'],
        'is_left': ['files', 'deeds', 'value'], 'choices_for': ['files', 'deeds', 'value'],
    },
    entries: {
        'bank_text': ['branches', 'accounts'], 'branch_of': ['account'], 'accounts_of': ['bank', 'name'],
        'is_entry': ['bank', 'value'], 'batch_text': ['bank', 'number', 'name', 'entries'],
    },
    plainly: {
        'plain_row': ['bank', 'name', 'texts'], 'letters_in': ['bank', 'name', 'row', 'other'],
        'balances_behind': ['bank', 'name', 'row'], 'plain_night': ['bank', 'night'],
        'plain_balances': ['bank', 'night'], 'least_limits': ['bank', 'name', 'texts'],
    },
    branch: {'new_branch': ['shelf', 'bank', 'name'], 'lies_there': ['shelf']},
    night: {
        'balances_of': ['run'], 'on_the_way': ['run'], 'missing': ['run'], 'left_over': ['run'], 'left_to_do': ['run'],
        'is_dawn': ['run'], 'run_through': ['bank', 'night', 'calls'],
    },
    interest: {
        'parts_of': ['stretches'], 'true_interest': ['stretches'], 'daily': ['stretches', 'rest'],
        'first_day': ['balance', 'rate', 'year', 'rest', 'units'], 'split': ['amount', 'weights'],
        'value_at': ['table', 'day'], 'stretches_of': ['balances', 'rates', 'years', 'begin', 'end'],
        'paid_in': ['balances', 'rates', 'years', 'ends', 'rest'],
    },
    statements: {
        'statement_text': ['account', 'before', 'postings'], 'read_draft': ['draft'], 'is_draft': ['value'],
        'adds_up': ['draft'], 'steps_off': ['draft'], 'least_mends': ['draft'], 'shows_least_mends': ['draft', 'value'],
        'why_fewest': ['draft'], 'shows_why': ['draft', 'value'], 'paged': ['account', 'before', 'postings', 'lines'],
        'joined_pages': ['pages'],
    },
    settling: {
        'statements_of': ['firsts', 'entries'], 'trial': ['firsts', 'entries'], 'netted': ['entries'],
        'least_settling': ['nets'], 'shows_settling': ['nets', 'value'], 'groups': ['nets'], 'shows_groups': ['nets', 'value'],
    },
    marks: {
        'stretches': ['work', 'marks'], 'longest': ['work', 'marks'], 'run_time': ['work', 'marks', 'moments'],
        'worst_time': ['work', 'marks', 'cuts'], 'worst_moments': ['work', 'marks', 'cuts'],
        'shows_worst': ['work', 'marks', 'cuts', 'value'], 'cheapest_marks': ['work', 'most'],
        'shows_cheapest': ['work', 'most', 'value'], 'least_worst': ['work', 'cuts'], 'shows_least': ['work', 'cuts', 'value'],
        'least_times': ['work', 'cuts'], 'least_regret': ['work', 'cuts'], 'shows_regret': ['work', 'cuts', 'value'],
    },
    plans: {
        'is_way': ['value'], 'is_standing': ['value'], 'steps_run': ['way', 'standing'],
        'left_behind': ['way', 'standing', 'steps'], 'begun_with': ['way', 'first'], 'judged_way': ['way'],
        'shows_wrong': ['way', 'value'], 'needless_fences': ['way'], 'least_fences': ['way'],
        'shows_least_fences': ['way', 'value'], 'good_way': [],
    },
    match: {
        'paired': ['one', 'other'], 'difference': ['one', 'other'], 'repeated': ['notes'], 'corrected': ['one', 'changes'],
        'least_corrections': ['one', 'other'], 'shows_corrections': ['one', 'other', 'value'],
        'corrections_many': ['one', 'other'], 'lots_with': ['notes', 'amount'], 'a_lot': ['notes', 'amount'],
        'shows_lot': ['notes', 'amount', 'value'], 'near_sums': ['notes', 'amount'], 'slips_of': ['amount', 'its'],
        'slips_in': ['one', 'other'],
    },
    runners: {
        'can_begin': ['steps', 'done'], 'longest_row': ['steps'], 'shows_longest_row': ['steps', 'value'],
        'least_time': ['steps', 'hands'], 'shows_least_time': ['steps', 'hands', 'value'], 'is_rule': ['value'],
        'rule_of': ['words'], 'played': ['rule', 'parts', 'weaving'], 'is_wrong': ['rule', 'parts', 'weaving'],
        'judged_rule': ['rule', 'parts', 'takings'], 'shows_rule': ['rule', 'parts', 'takings', 'value'],
    },
    days: {'day_report': ['text'], 'plain_day': ['text']},
    desk: {'desk_text': ['desk'], 'read_desk': ['text']},
}
CLASSES = {
    shelves: {'Shelf': (['files'], {'read': ['file'], 'add': ['file', 'line'], 'lay': ['file', 'lines'],
                                    'sync': [], 'copy': []})},
    entries: {'Bank': (['text'], {}), 'Batch': (['bank', 'text'], {})},
    branch: {'Branch': (['shelf'], {'take': ['text'], 'post': ['upto'], 'letters_to': ['other', 'after'],
                                    'hear': ['other', 'letters'], 'heard': ['other'], 'credit': ['numbers']})},
    night: {'Run': (['bank', 'night'], {'go_on': ['call'], 'shelf_of': ['name'], 'branch_at': ['name'], 'copy': []})},
    interest: {'Accrual': (['rest'], {'go_on': ['stretch'], 'close': [], 'copy': []})},
    runners: {'Steps': (['text'], {'__len__': []})},
    days: {'Day': (['text'], {'go_on': []})},
    desk: {'Desk': ([], {'lead': ['deed'], 'thing_kind': ['name'], 'thing_of': ['name'], 'balances_at': ['name'],
                         'left': ['name'], 'undo': [], 'redo': [], 'note': ['word'], 'notes': [], 'back': ['word'],
                         'all_deeds': [], '__len__': [], '__contains__': ['value']})},
}
TEXT = 'branch a 1\nbranch b 0\naccount a.x 5 0\naccount b.y 0 0'


def parameters(function):
    return list(inspect.signature(function).parameters)


class Interface(unittest.TestCase):

    def test_functions_stand_in_their_files_with_their_parameters(self):
        for module, functions in FUNCTIONS.items():
            for name, expected in functions.items():
                function = getattr(module, name)
                self.assertTrue(inspect.isfunction(function), name)
                self.assertEqual(function.__module__, module.__name__)
                self.assertEqual(parameters(function), expected, name)

    def test_classes_stand_in_their_files_with_their_methods(self):
        for module, classes in CLASSES.items():
            for name, (expected, methods) in classes.items():
                made = getattr(module, name)
                self.assertTrue(inspect.isclass(made), name)
                self.assertEqual(made.__module__, module.__name__)
                self.assertEqual(parameters(made), expected, name)
                for method, more in methods.items():
                    self.assertIn(method, vars(made))
                    self.assertEqual(parameters(vars(made)[method]), ['self'] + more)

    def test_attributes_are_there_from_the_first(self):
        bank = Bank('branch a 1')
        run = Run(bank, (('batch 1 a 0 0',),))
        for made, names in ((Shelf(()), ('files', 'log')), (bank, ('text', 'branches', 'accounts')),
                            (Batch(bank, 'batch 1 a 0 0'), ('bank', 'text', 'number', 'branch', 'entries')),
                            (run.branch_at('a'), ('bank', 'name', 'taken', 'row', 'posted', 'balances', 'is_credited')),
                            (run, ('bank', 'night', 'cuts')), (Accrual(0), ('rest', 'paid', 'days')),
                            (Steps('step a 1'), ('text', 'rows')), (Day('branch a 0\nnight'), ('text', 'at')),
                            (Desk(), ('names',))):
            for name in names:
                self.assertTrue(hasattr(made, name), name)

    def test_arguments_by_name(self):
        shelf = Shelf(files=())
        self.assertIsNone(shelf.lay(file='a', lines=('x',)))
        self.assertIsNone(shelf.add(file='a', line='y'))
        self.assertEqual(shelf.read(file='a'), ('x', 'y'))
        deeds = (('add', 'a', 'x'),)
        self.assertTrue(shelves.is_line(value='x') and shelves.is_deed(value=deeds[0]) and shelves.are_files(value=()))
        self.assertEqual(shelves.done_deeds(deeds=deeds, files=()), (('a', ('x',)),))
        self.assertEqual(shelves.pending(deeds=deeds, files=()), (('a', 1),))
        self.assertEqual(shelves.left_by(choices=((0, -1),), deeds=deeds, files=()), ())
        self.assertEqual(shelves.cuts_many(deeds=deeds, files=()), 3)
        self.assertEqual(shelves.nth_left(number=1, deeds=deeds, files=()), (('a', ('',)),))
        self.assertEqual(len(shelves.all_left(deeds=deeds, files=())), 3)
        self.assertTrue(shelves.is_left(value=(), deeds=deeds, files=()))
        self.assertEqual(shelves.choices_for(value=(), deeds=deeds, files=()), ((0, -1),))
        bank = Bank(text='branch a 1\naccount a.x 0 0\naccount a.y 0 0')
        self.assertEqual(bank_text(accounts=bank.accounts, branches=bank.branches), bank.text)
        self.assertEqual(branch_of(account='a.x'), 'a')
        self.assertEqual(accounts_of(name='a', bank=bank), ('a.x', 'a.y'))
        self.assertTrue(is_entry(value=('a.x', 'a.y', 1), bank=bank))
        text = batch_text(entries=(), name='a', number=1, bank=bank)
        self.assertEqual(Batch(text=text, bank=bank).text, text)

    def test_arguments_by_name_of_plainly(self):
        bank = Bank(TEXT)
        texts = (batch_text(bank, 1, 'a', (('a.x', 'b.y', 2),)),)
        row = plainly.plain_row(texts=texts, name='a', bank=bank)
        self.assertEqual(row, (('booked', 'a.x', 'b.y', 2),))
        self.assertEqual(plainly.letters_in(other='b', row=row, name='a', bank=bank), ((1, 'b.y', 2),))
        self.assertEqual(plainly.balances_behind(row=row, name='a', bank=bank), (('a.x', 3),))
        self.assertEqual(plainly.plain_night(night=(texts, ()), bank=bank), (row, ()))
        self.assertEqual(plainly.plain_balances(night=(texts, ()), bank=bank), (('a.x', 3), ('b.y', 2)))
        self.assertEqual(plainly.least_limits(texts=texts, name='a', bank=bank), (('a.x', 0),))

    def test_arguments_by_name_of_branches_and_nights(self):
        bank = Bank(TEXT)
        text = batch_text(bank, 1, 'a', (('a.x', 'b.y', 2),))
        shelf = Shelf(())
        self.assertIsNone(branch.new_branch(name='a', bank=bank, shelf=shelf))
        self.assertTrue(branch.lies_there(shelf=shelf))
        one = branch.Branch(shelf=shelf)
        self.assertEqual((one.take(text=text), one.post(upto=1)), (None, 1))
        self.assertEqual(one.letters_to(after=0, other='b'), ((1, 'b.y', 2),))
        self.assertEqual((one.hear(letters=((1, 'a.x', 4),), other='b'), one.heard(other='b')), (1, 1))
        self.assertEqual((one.credit(numbers=(('b', 1),)), one.balances), (None, (('a.x', 7),)))
        run = Run(night=((text,), ()), bank=bank)
        self.assertEqual(run.go_on(call=('take', 'a', 1)), 'done')
        self.assertEqual((run.branch_at(name='a').taken, len(run.shelf_of(name='a').files) > 0), (1, True))
        self.assertEqual((night.balances_of(run=run), night.on_the_way(run=run)), ((('a.x', 5), ('b.y', 0)), ()))
        self.assertEqual((night.missing(run=run), night.left_over(run=run), night.is_dawn(run=run)), (0, 4, False))
        calls = night.left_to_do(run=run)
        self.assertEqual(calls[0], ('post', 'a', 1))
        self.assertEqual(night.left_over(night.run_through(calls=calls, night=((text,), ()), bank=bank)), 5)

    def test_arguments_by_name_of_interest(self):
        year = (365, 1000, 50000, 365)
        self.assertEqual(interest.parts_of(stretches=(year,)), 50 * 133590000000)
        self.assertEqual(interest.true_interest(stretches=(year,)), (50, 1))
        accrual = Accrual(rest=0)
        self.assertEqual((accrual.go_on(stretch=year), accrual.close()), (50, 0))
        self.assertEqual(len(interest.daily(rest=0, stretches=(year,))), 365)
        self.assertEqual(interest.first_day(units=50, rest=0, year=365, rate=50000, balance=1000), 365)
        self.assertEqual(interest.split(weights=(1, 1), amount=5), (2, 3))
        self.assertEqual(interest.value_at(day=3, table=((0, 5),)), 5)
        tables = {'balances': ((0, 1000),), 'rates': ((0, 50000),), 'years': ((0, 365),)}
        self.assertEqual(interest.stretches_of(end=365, begin=0, **tables), (year,))
        self.assertEqual(interest.paid_in(rest=0, ends=(73,), **tables), ((10, 0),))

    def test_arguments_by_name_of_statements(self):
        text = statements.statement_text(postings=((1, 5),), before=2, account='a.b')
        self.assertEqual(statements.read_draft(draft=text), ('a.b', 2, ((1, 5, 7),), 7))
        self.assertTrue(statements.is_draft(value=text) and statements.adds_up(draft=text))
        self.assertEqual((statements.steps_off(draft=text), statements.least_mends(draft=text)), ((), (0, ())))
        self.assertTrue(statements.shows_least_mends(value=(0, ()), draft=text))
        self.assertEqual(statements.why_fewest(draft=text), (1, 2))
        self.assertTrue(statements.shows_why(value=(1, 2), draft=text))
        self.assertEqual(statements.paged(lines=1, postings=((1, 5),), before=2, account='a.b'), (text,))
        self.assertEqual(statements.joined_pages(pages=(text,)), ('a.b', 2, ((1, 5),)))
        firsts, sent = (('a.b', 2), ('a.c', 0)), (('a.b', 'a.c', 1),)
        self.assertEqual(len(settling.statements_of(entries=sent, firsts=firsts)), 2)
        self.assertEqual(settling.trial(entries=sent, firsts=firsts)[1], 1)
        nets = settling.netted(entries=sent)
        self.assertEqual(settling.least_settling(nets=nets), (1, sent))
        self.assertTrue(settling.shows_settling(value=(1, sent), nets=nets))
        self.assertEqual(settling.groups(nets=nets), (('a.b', 'a.c'),))
        self.assertTrue(settling.shows_groups(value=(('a.b', 'a.c'),), nets=nets))

    def test_arguments_by_name_of_marks(self):
        work = ((4, 3), (1,), 3)
        self.assertEqual((marks.stretches(marks=(0,), work=work), marks.longest(marks=(0,), work=work)), ((5, 3), 5))
        self.assertEqual(marks.run_time(moments=(2,), marks=(), work=work), 12)
        self.assertEqual(marks.worst_time(cuts=1, marks=(), work=work), 16)
        told = marks.worst_moments(cuts=1, marks=(), work=work)
        self.assertTrue(marks.shows_worst(value=told, cuts=1, marks=(), work=work))
        self.assertEqual(marks.cheapest_marks(most=5, work=work), (1, (0,)))
        self.assertTrue(marks.shows_cheapest(value=(1, (0,)), most=5, work=work))
        self.assertEqual(marks.least_worst(cuts=1, work=work), (15, (0,)))
        self.assertTrue(marks.shows_least(value=(15, (0,)), cuts=1, work=work))
        self.assertEqual(marks.least_times(cuts=1, work=work), (7, 15))
        told = marks.least_regret(cuts=1, work=work)
        self.assertTrue(marks.shows_regret(value=told, cuts=1, work=work))

    def test_arguments_by_name_of_plans(self):
        way, zero = plans.good_way(), (0, 0, 0, 0, 0)
        self.assertTrue(plans.is_way(value=way) and plans.is_standing(value=zero))
        self.assertEqual(plans.steps_run(standing=zero, way=(('wait',),)), (0,))
        self.assertEqual(plans.left_behind(steps=0, standing=zero, way=way), (zero,))
        self.assertEqual(plans.begun_with(first=zero, way=()), (zero,))
        self.assertEqual(plans.judged_way(way=way), ('once',))
        self.assertFalse(plans.shows_wrong(value=('once',), way=way))
        self.assertEqual(plans.needless_fences(way=way), ())
        self.assertTrue(plans.shows_least_fences(value=plans.least_fences(way=way), way=way))

    def test_arguments_by_name_of_match(self):
        one, other = (('a', 12),), (('a', 21),)
        self.assertEqual(match.paired(other=other, one=one), ((), (0,), (0,)))
        self.assertEqual((match.difference(other=other, one=one), match.repeated(notes=one)), (-9, ()))
        changes = match.least_corrections(other=other, one=one)
        self.assertEqual(match.corrected(changes=changes, one=one), other)
        self.assertTrue(match.shows_corrections(value=changes, other=other, one=one))
        self.assertEqual(match.corrections_many(other=other, one=one), 1)
        self.assertEqual((match.lots_with(amount=12, notes=one), match.a_lot(amount=12, notes=one)), (((0,),), (0,)))
        self.assertTrue(match.shows_lot(value=(0,), amount=12, notes=one))
        self.assertEqual(match.near_sums(amount=5, notes=one), (0, 12))
        self.assertEqual(match.slips_of(its=21, amount=12), ('swapped',))
        self.assertEqual(match.slips_in(other=other, one=one), ((0, 0, ('swapped',)),))

    def test_arguments_by_name_of_runners(self):
        steps = Steps(text='step a 2')
        self.assertEqual((runners.can_begin(done=(), steps=steps), runners.longest_row(steps=steps)), (('a',), (2, ('a',))))
        self.assertTrue(runners.shows_longest_row(value=(2, ('a',)), steps=steps))
        self.assertEqual(runners.least_time(hands=1, steps=steps), (2, (0,)))
        self.assertTrue(runners.shows_least_time(value=(2, (0,)), hands=1, steps=steps))
        rule = runners.rule_of(words=('newest',))
        self.assertTrue(runners.is_rule(value=rule))
        self.assertEqual(runners.played(weaving=(('take',),), parts=1, rule=rule), (1, 1, (0,), False, ()))
        self.assertFalse(runners.is_wrong(weaving=(('take',),), parts=1, rule=rule))
        self.assertEqual(runners.judged_rule(takings=1, parts=1, rule=rule), ('safe',))
        self.assertTrue(runners.shows_rule(value=('safe',), takings=1, parts=1, rule=rule))

    def test_arguments_by_name_of_days_and_desks(self):
        text = 'branch a 0\nnight\nleft'
        self.assertEqual(Day(text=text).go_on(), ('left over: 1',))
        self.assertEqual((days.day_report(text=text), days.plain_day(text=text)), (('left over: 1',), text))
        one = Desk()
        self.assertIsNone(one.lead(deed=('bank', 'b', TEXT)))
        self.assertEqual((one.thing_kind(name='b'), one.thing_of(name='b').text), ('bank', TEXT))
        self.assertEqual(one.balances_at(name='b'), (('a.x', 5), ('b.y', 0)))
        one.lead(('night', 'n', 'b', (('batch 1 a 0 0',), ())))
        self.assertEqual((one.left(name='n'), one.note(word='w'), one.back(word='w')), (3, None, None))
        self.assertEqual(desk.desk_text(desk.read_desk(text=desk.desk_text(desk=one))), desk.desk_text(one))
