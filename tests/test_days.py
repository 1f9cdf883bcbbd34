import random
from unittest import mock

from oncebooked import days
from oncebooked.days import Day, day_report, plain_day
from oncebooked.entries import Bank
from oncebooked.errors import BadDay, DayOver
from oncebooked.night import Run
from oncebooked.plainly import plain_balances
from tests import nights
from tests.test_shelves import Raising
from tests.values import odd_values, same

BANK = ['branch east 2', 'branch west 1', 'branch lone 0', 'account east.ann 50 0', 'account east.bob 0 20', 'account west.cid 7 0']
ONE = ['batch 1 east 3 100', 'entry east.ann west.cid 30', 'entry east.ann east.bob 40', 'entry east.bob west.cid 30']
TWO = ['batch 2 east 0 0']
OTHER = ['batch 1 west 1 5', 'entry west.cid east.bob 5']
FIRST = BANK + ONE + OTHER + TWO + ['night']
# The numbers of the first lines of the batches, of night, and of the line behind it.
AT_ONE, AT_OTHER, AT_TWO, AT_NIGHT = 7, 11, 13, 14
BEHIND = AT_NIGHT + 1


class PlainNight:
    """The night of a script in memory, that knows neither shelves nor cuts."""

    def __init__(self, bank, night):
        self.bank = bank
        self.night = dict(zip(nights.names_in(bank), night))
        self.rows = nights.plain_rows(bank, night)
        self.branches = {name: nights.Model(bank, name) for name in self.night}

    def change(self, name, **more):
        self.branches[name] = self.branches[name].but(**more)

    def take(self, name):
        have = self.branches[name].texts
        self.change(name, texts=have + self.night[name][len(have):len(have) + 1])
        return []

    def post(self, name, count):
        branch = self.branches[name]
        self.change(name, posted=min(branch.posted + int(count), len(nights.entries_in(branch.texts))))
        return []

    def carry(self, one, other, *numbers):
        letters = self.branches[one].letters_to(other, 0)
        chosen = [letter for number in numbers for letter in letters if letter[0] == int(number)] if numbers else letters
        self.branches[other] = self.branches[other].hearing(one, chosen)
        return []

    def has_all(self, name):
        branch = self.branches[name]
        return branch.texts == self.night[name] and branch.posted == len(self.rows[name])

    def sent(self, one, other):
        return len(self.branches[one].letters_to(other, 0))

    def credit(self, name):
        branch = self.branches[name]
        if branch.is_credited:
            return []
        if not all(self.has_all(other) for other in self.branches):
            return ['too early']
        if any(branch.heard(other) != self.sent(other, name) for other in branch.others):
            return ['too early']
        self.change(name, is_credited=True)
        return []

    def dawn(self):
        for name in self.branches:
            self.change(name, texts=self.night[name], posted=len(self.rows[name]))
        for one in self.branches:
            for other in self.branches[one].others:
                self.carry(one, other)
        for name in self.branches:
            self.change(name, is_credited=True)
        return []

    def row(self, name):
        return [' '.join(map(str, booking)) for booking in self.branches[name].row]

    def balance(self, account):
        return [f'{account}: {dict(self.branches[account.split(".")[0]].balances)[account]}']

    def letters(self, one, other):
        return [f'{self.branches[other].heard(one)} of {self.sent(one, other)}']

    def way(self):
        lying = sum(balance for branch in self.branches.values() for _, balance in branch.balances)
        return [f'on the way: {sum(first for first, _ in nights.accounts_in(self.bank).values()) - lying}']

    def left(self):
        many = sum(not branch.is_credited for branch in self.branches.values())
        for name, branch in self.branches.items():
            many += len(self.night[name]) - branch.taken + len(self.rows[name]) - branch.posted
            many += sum(len(nights.letters_in(self.rows[other], name)) - branch.heard(other) for other in branch.others)
        return [f'left over: {many}']

    def shown_by(self, line):
        words = line.split(' ')
        words = words[2:] if words[0] == 'cut' else words
        return getattr(self, words[0])(*words[1:])


def shown_plainly(bank, night, lines):
    plain = PlainNight(bank, night)
    return tuple(row for line in lines for row in plain.shown_by(line))


def drawn_bank(draw):
    """A bank of two or three branches with accounts of some wealth."""
    names = draw.sample(nights.NAMES, draw.choice((2, 2, 3)))
    accounts = [f'account {name}.{word} {draw.randint(0, 60)} {draw.randint(0, 9)}' for name in names for word in ('ann', 'bob')]
    draw.shuffle(accounts)
    return '\n'.join([f'branch {name} {draw.randint(0, 3)}' for name in names] + accounts)


def drawn_night(draw, bank):
    """A night of which most entries go to another branch."""
    accounts = list(nights.accounts_in(bank))
    night = []
    for name, many in nights.branches_in(bank):
        own = [account for account in accounts if nights.lies_at(account, name)]
        rows = []
        for number in range(1, many + 1):
            pairs = [(draw.choice(own), draw.choice(accounts), draw.randint(1, 25)) for _ in range(draw.randint(1, 5))]
            rows.append(nights.batch_of(number, name, [entry for entry in pairs if entry[0] != entry[1]]))
        night.append(tuple(rows))
    return tuple(night)


def drawn_call(draw, bank, free):
    """A line that calls a branch; free tells how many batches each branch may still take, and is kept."""
    names = nights.names_in(bank)
    name = draw.choice(names)
    word = draw.choice(('take', 'take', 'take', 'post', 'post', 'carry', 'carry', 'carry', 'credit'))
    if word == 'take' and free[name]:
        free[name] -= 1
        return f'take {name}'
    if word == 'credit':
        return f'credit {name}'
    if word == 'carry':
        one, other = draw.sample(names, 2)
        numbers = sorted(draw.choice((1, 1, 2, 2, 3, 4, 5, 10 ** 6)) for _ in range(draw.choice((0, 0, 1, 2, 4, 9))))
        return ' '.join(['carry', one, other] + [str(number) for number in numbers])
    return f'post {name} {draw.choice((0, 1, 2, 3, 5, 2500))}'


def drawn_line(draw, bank, free):
    names, accounts = nights.names_in(bank), list(nights.accounts_in(bank))
    if draw.random() < 0.6:
        line = drawn_call(draw, bank, free)
        return f'cut {draw.choice((1, 2, 3, 20))} {line}' if draw.random() < 0.5 else line
    if draw.random() < 0.04:
        for name in free:
            free[name] = 0
        return 'dawn'
    return draw.choice(['way', 'left', f'row {draw.choice(names)}', f'balance {draw.choice(accounts)}', f'balance {draw.choice(accounts)}',
                        'letters ' + ' '.join(draw.sample(names, 2)), 'letters ' + ' '.join(draw.sample(names, 2))])


def to_dawn(draw, bank):
    """The lines that lead to dawn one by one, many of them cut."""
    branches = nights.branches_in(bank)
    names = [name for name, _ in branches]
    lines = [f'take {name}' for name, many in branches for _ in range(many)] + [f'post {name} 2500' for name in names]
    lines += [f'carry {one} {other}' for one in names for other in names if one != other] + [f'credit {name}' for name in names]
    return [draw.choice(('', '', 'cut 1 ', 'cut 4 ')) + line for line in lines]


def mixed(draw, night):
    """The texts of the night, those of each branch in their sequence, branches in any."""
    rows = [list(texts) for texts in night]
    found = []
    while any(rows):
        found.append(draw.choice([texts for texts in rows if texts]).pop(0))
    return found


def drawn_script(seed, most=60):
    draw = random.Random(seed)
    bank = drawn_bank(draw)
    night = drawn_night(draw, bank)
    free = dict(nights.branches_in(bank))
    if draw.random() < 0.3:
        shows = [drawn_line(draw, bank, {name: 0 for name in free}) for _ in range(most)]
        lines = [row for line in to_dawn(draw, bank) for row in (line, draw.choice(shows))]
        lines = [line for line in lines if line != 'dawn']
    else:
        lines = [drawn_line(draw, bank, free) for _ in range(draw.randint(0, most))]
    return bank, night, lines, '\n'.join([bank] + mixed(draw, night) + ['night'] + lines)


class OfDays(Raising):

    def test_beside_a_night_without_shelves_and_cuts(self):
        heard = 0
        for seed in range(200):
            bank, night, lines, text = drawn_script(seed)
            shown = shown_plainly(bank, night, lines)
            heard += len([row for row in shown if ' of ' in row and row[0] != '0'])
            self.assertTrue(same(day_report(text), shown), text)
            plain = plain_day(text)
            self.assertNotIn('\ncut ', plain)
            self.assertEqual((day_report(plain), plain_day(plain)), (shown, plain))
        self.assertGreater(heard, 50)

    def test_line_by_line(self):
        for seed in range(40):
            bank, night, lines, text = drawn_script(seed, 12)
            plain, day = PlainNight(bank, night), Day(text)
            self.assertTrue(same((day.text, day.at), (text, 0)))
            for at, line in enumerate(lines):
                self.assertEqual(day.at, at)
                self.assertTrue(same(day.go_on(), tuple(plain.shown_by(line))), (text, at))
            self.assertEqual(day.at, len(lines))
            for _ in range(2):
                self.refused(DayOver, len(lines), day.go_on)
            self.assertEqual(day.at, len(lines))

    def test_dawn(self):
        for seed in range(60):
            bank, night, lines, text = drawn_script(seed)
            accounts = list(nights.accounts_in(bank))
            asks = ['dawn'] + [f'balance {account}' for account in accounts] + ['left', 'way']
            shown = day_report('\n'.join([text] + asks))
            told = [f'{account}: {balance}' for account, balance in plain_balances(Bank(bank), night)]
            self.assertEqual(list(shown[len(shown) - len(asks) + 1:]), told + ['left over: 0', 'on the way: 0'])

    def test_two_days_do_not_touch_each_other(self):
        text = '\n'.join(FIRST + ['take east', 'post east 1', 'row east'])
        one, other = Day(text), Day(text)
        one.go_on()
        one.go_on()
        self.assertEqual((one.at, other.at), (2, 0))
        other.go_on()
        self.assertEqual(one.go_on(), ('booked east.ann west.cid 30',))
        self.assertEqual([other.go_on(), other.go_on()], [(), ('booked east.ann west.cid 30',)])

    def shown(self, *lines):
        return day_report('\n'.join(FIRST + list(lines)))

    def test_ordinary(self):
        self.assertTrue(same(self.shown(), ()))
        self.assertEqual(self.shown('left', 'way'), ('left over: 12', 'on the way: 0'))
        self.assertEqual(self.shown('take east', 'post east 1', 'carry east west', 'letters east west', 'letters west east', 'way',
                                    'balance west.cid', 'balance east.ann'),
                         ('1 of 1', '0 of 0', 'on the way: 30', 'west.cid: 7', 'east.ann: 20'))
        self.assertEqual(self.shown('credit lone', 'dawn', 'credit lone', 'credit east', 'left'), ('too early', 'left over: 0'))
        self.assertEqual(self.shown('cut 20 credit lone', 'cut 1 take east', 'row east', 'row lone'), ('too early',))
        early = ['take east', 'take east', 'take west', 'post east 9', 'post west 9', 'credit west', 'credit lone']
        self.assertEqual(self.shown(*early, 'carry west east', 'cut 3 credit east', 'credit west', 'left'),
                         ('too early', 'too early', 'left over: 2'))

    def test_post_goes_on_from_where_it_stood_at_first(self):
        for cuts in (1, 2, 3, 7, 20):
            for count, many in ((0, 0), (1, 1), (2, 2), (3, 3), (2500, 3)):
                self.assertEqual(len(self.shown('take east', f'cut {cuts} post east {count}', 'row east')), many)
            self.assertEqual(len(self.shown('take east', 'post east 1', f'cut {cuts} post east 1', 'row east')), 2)
            self.assertEqual(self.shown(f'cut {cuts} take east', f'cut {cuts} take east', 'left'), ('left over: 10',))
            self.assertEqual(self.shown('take east', 'post east 1', f'cut {cuts} carry east west', 'letters east west'), ('1 of 1',))

    def test_the_power_goes_as_often_as_told(self):
        told = []

        class Watched(Run):

            def go_on(self, call):
                told.append((call, super().go_on(call)))
                return told[-1][1]

        take, post, carry = ('take', 'east', 1), ('post', 'east', 3), ('carry', 'east', 'west', (1,))
        lines = ['cut 3 take east', 'cut 20 post east 3', 'cut 1 carry east west', 'cut 5 credit west', 'row east']
        with mock.patch.object(days, 'Run', Watched):
            day = Day('\n'.join(FIRST + lines))
            for _ in lines:
                day.go_on()
        for call, place, many in ((take, 'east', 3), (post, 'east', 20), (carry, 'west', 1)):
            ahead = [row for row in told if row[0] == call]
            self.assertEqual([shown for _, shown in ahead], ['cut'] * many + ['done'])
            at = told.index(ahead[0])
            cuts = [row for row in told[at - 1:] if row[0][0] == 'cut'][:many]
            self.assertEqual({(call[1], shown) for call, shown in cuts}, {(place, 'noted')})
        self.assertEqual(len([row for row in told if row[1] == 'noted']), 24)

    def test_carry_numbers(self):
        one = ['take east', 'post east 3']
        for numbers, heard in (('1', 1), ('2', 0), ('1 1', 1), ('1000000', 0), ('1 2', 1)):
            self.assertEqual(self.shown(*one, f'carry east west {numbers}', 'letters east west'), (f'{heard} of 1',))
        lines = ['take east', 'post east 3', 'carry east west 2', 'letters east west', 'carry east west 1 1 1000000',
                 'letters east west', 'carry east west 1 2 2', 'letters east west']
        text = '\n'.join(FIRST + lines)
        self.assertEqual(day_report(text), ('0 of 1', '1 of 1', '1 of 1'))
        many = 'carry east west ' + ' '.join(['1'] * 2500)
        self.assertEqual(self.shown('take east', 'post east 1', many, 'letters east west'), ('1 of 1',))
        self.refused(BadDay, BEHIND, day_report, '\n'.join(FIRST + [many + ' 1']))


class OfFaults(Raising):

    def refused_by_all(self, number, text):
        for function in (Day, day_report, plain_day):
            self.refused(BadDay, number, function, text)

    def faulty(self, number, lines):
        self.refused_by_all(number, '\n'.join(lines))

    def test_no_scripts(self):
        for value in odd_values():
            if isinstance(value, str):
                self.refused_by_all(1, value)
            else:
                self.refused_by_all(0, value)
        text = '\n'.join(FIRST)
        self.assertEqual(day_report(text), ())
        long = text + '\n' + 'x' * 40000
        self.refused_by_all(0, long[:40001])
        self.refused_by_all(BEHIND, long[:40000])
        self.refused_by_all(0, 'x' * 40001)
        self.refused_by_all(1, 'x' * 40000)

    def test_bank(self):
        for at, line in ((1, 'account east.ann 1 1'), (1, 'branch east'), (2, 'branch east 1'), (4, 'account east.ann -1 0'),
                         (5, 'branch up 1'), (6, 'account up.x 0 0'), (3, ''), (3, 'nightly'), (3, 'batches 1'), (2, 'take east'),
                         (6, ' night'), (6, 'night\t')):
            self.faulty(at, FIRST[:at - 1] + [line] + FIRST[at:])
        self.faulty(1, ['night'])
        self.faulty(1, ['batch 1 east 0 0', 'night'])
        self.faulty(1, ['batch'])
        self.faulty(7, BANK)
        self.faulty(2, ['branch a 0'])
        self.faulty(2, ['branch a 0', ''])
        self.assertEqual(day_report('branch a 0\nnight'), ())

    def test_batches(self):
        for line in ('batch', 'batch 1', 'batch 1 east 3', 'batch 1 east 3 100 1', 'batch 0 east 3 100', 'batch 3 east 3 100',
                     'batch 2 east 3 100', 'batch 1 up 3 100', 'batch 1 lone 3 100', 'batch 1 east 51 100', 'batch 1 east 3 99',
                     'batch 1 east 03 100', 'batch  1 east 3 100', 'batch 1 east 3 100 ', 'batch 1 west 3 100'):
            at = AT_ONE + 1 if line == 'batch 1 west 3 100' else AT_ONE
            self.faulty(at, FIRST[:AT_ONE - 1] + [line] + FIRST[AT_ONE:])
        for line in ('', 'entry', 'entry east.ann east.ann 40', 'entry east.ann east.bob 0', 'entry west.cid east.bob 40', 'night',
                     'batch 1 west 0 0', 'entry east.ann east.bob 40 ', 'entry east.ann up.x 40'):
            self.faulty(AT_ONE + 2, FIRST[:AT_ONE + 1] + [line] + FIRST[AT_ONE + 2:])
        self.faulty(AT_ONE, FIRST[:AT_ONE + 1] + ['entry east.ann east.bob 41'] + FIRST[AT_ONE + 2:])
        self.faulty(AT_OTHER, BANK + ONE + ONE + OTHER + TWO + ['night'])
        self.faulty(AT_ONE, BANK + TWO + ONE + OTHER + ['night'])
        self.faulty(AT_OTHER, BANK + ONE + ['account west.eve 0 0'] + OTHER + TWO + ['night'])
        for lines in (['take east'], [''], ['x'], ['branch up 0']):
            self.faulty(AT_ONE, BANK + lines + ONE + OTHER + TWO + ['night'])
            self.faulty(AT_OTHER, BANK + ONE + lines + OTHER + TWO + ['night'])

    def test_a_batch_that_is_not_the_next_one(self):
        # Its first line is told, whatever else is wrong with it.
        for number, name in ((2, 'east'), (1, 'lone')):
            for rows in (['entry east.ann east.bob 1'], ['x'], ['entry east.ann east.bob 2'], [], ['night']):
                self.faulty(AT_ONE, BANK + [f'batch {number} {name} 1 1'] + rows)
        for rows in (['entry east.ann east.bob 1'], ['x'], ['entry east.ann east.bob 2'], [], ['night']):
            self.faulty(AT_OTHER, BANK + ONE + ['batch 1 east 1 1'] + rows)

    def test_batches_in_any_sequence_of_branches(self):
        for rows in (ONE + TWO + OTHER, OTHER + ONE + TWO, ONE + OTHER + TWO):
            self.assertEqual(day_report('\n'.join(BANK + rows + ['night', 'left'])), ('left over: 12',))

    def test_night(self):
        for line in ('night ', 'night night', 'night x', 'Night', 'nights', '', ' night', 'dawn', 'entry east.ann east.bob 40'):
            self.faulty(AT_NIGHT, FIRST[:-1] + [line])
            self.faulty(AT_NIGHT, FIRST[:-1] + [line, 'night'])
        self.faulty(AT_TWO, BANK + ONE + OTHER + ['night'])
        self.faulty(AT_ONE, BANK + ['night'] + ONE + OTHER + TWO)
        self.faulty(AT_NIGHT, FIRST[:-1])
        self.faulty(AT_ONE + 3, BANK + ONE[:3])
        self.faulty(AT_ONE + 1, BANK + ONE[:1])
        self.faulty(AT_ONE + 4, BANK + ONE)

    def test_lines_behind_it(self):
        wrong = ['', ' ', 'take', 'take up', 'take east 1', 'take East', 'take lone', 'post east', 'post up 1', 'post east -1',
                 'post east 2501', 'post east 01', 'post east 1 1', 'post east x', 'carry', 'carry east', 'carry east east',
                 'carry east up', 'carry up east', 'carry east west 0', 'carry east west 1000001', 'carry east west 2 1',
                 'carry east west 1 x', 'carry east west 01', 'carry east west  1', 'credit', 'credit up', 'credit east west',
                 'cut', 'cut 1', 'cut take east', 'cut 0 take east', 'cut 21 take east', 'cut 01 take east', 'cut 1 take lone',
                 'cut 1 dawn', 'cut 1 row east', 'cut 1 balance east.ann', 'cut 1 letters east west', 'cut 1 way', 'cut 1 left',
                 'cut 1 cut 1 take east', 'cut 1 take', 'cut 1 post east', 'cut 1 ', 'cut x take east', 'dawn east', 'dawn ',
                 'row', 'row up', 'row east west', 'balance', 'balance east', 'balance east.cid', 'balance up.x',
                 'balance east.ann east.bob', 'letters', 'letters east', 'letters east east', 'letters east up',
                 'letters east west lone', 'way 1', 'left 0', 'night', 'batch 1 east 0 0', 'branch up 0', 'noted', 'Take east',
                 ' take east', 'take  east', 'take east ', 'take\teast', 'post east 1000000000000000', '0', 'too early']
        for line in wrong:
            self.faulty(BEHIND, FIRST + [line])
            self.faulty(BEHIND + 2, FIRST + ['take east', 'way', line, 'x'])

    def test_takes_beyond_the_last_batch(self):
        for rows in (['take east', 'take east'], ['cut 1 take east', 'take east'], ['dawn'], ['take east', 'dawn']):
            for line in ('take east', 'cut 3 take east'):
                self.faulty(BEHIND + len(rows), FIRST + rows + [line])
                self.faulty(BEHIND + len(rows) + 1, FIRST + rows + ['left', line, 'x'])
        self.faulty(BEHIND + 2, FIRST + ['dawn', 'way', 'take west'])
        self.assertEqual(day_report('\n'.join(FIRST + ['take east', 'take west', 'take east', 'left'])), ('left over: 9',))

    def test_lines_beyond_the_last_one(self):
        full = FIRST + ['way'] * (400 - len(FIRST))
        self.assertEqual(len(day_report('\n'.join(full))), 400 - len(FIRST))
        for rest in ([''], ['way'], ['x', 'y'], ['way'] * 5):
            self.faulty(401, full + rest)
        self.faulty(400, full[:-1] + ['x', 'y'])
        self.faulty(BEHIND, FIRST + ['x'] + full)

    def many_batches(self, many, last):
        """A bank with batches of which the last one begins in this line; (lines, number of the next one)."""
        lines = ['branch a 50', 'branch b 50', 'account a.x 99 0', 'account a.y 0 0', 'account b.x 5 0']
        number = 0
        while len(lines) < last - 1:
            number += 1
            count = min(49, last - len(lines) - 2)
            lines += [f'batch {number} a {count} {count}'] + ['entry a.x a.y 1'] * count
        return lines, number + 1

    def test_a_batch_that_goes_on_beyond_the_last_line(self):
        for last, count in ((399, 1), (390, 20), (400, 5), (398, 3), (400, 1)):
            lines, number = self.many_batches(50, last)
            self.assertEqual(len(lines), last - 1)
            entries = ['entry a.x a.y 1'] * count
            # The sum is looked at only where the batch ends in time.
            for total in (count, count + 1):
                batch = [f'batch {number} a {count} {total}'] + entries
                in_time = last + count <= 400
                self.faulty(last if in_time and total > count else 401, lines + batch + ['night'])
                self.faulty(401 if total == count or not in_time else last, lines + batch + ['x'] * 500)
            self.faulty(last, lines + [f'batch {number + 1} a {count} {count}'] + entries + ['night'])
            self.faulty(last, lines + [f'batch {number} c {count} {count}'] + entries + ['night'])
            if count > 1 and last < 400:
                self.faulty(last + 1, lines + [f'batch {number} a {count} {count}', 'x'] + entries + ['night'])
            wrong = entries[:400 - last] + ['x'] * 20
            self.faulty(401, lines + [f'batch {number} a {count} {count}'] + wrong)
        lines, number = self.many_batches(50, 401)
        self.faulty(401, lines)
        self.faulty(401, lines + ['night'])

    def test_a_bank_beyond_the_last_line(self):
        self.faulty(7, ['branch ' + name + ' 0' for name in 'abcdef'] + ['branch g 0'] * 500)

    def test_great_scripts(self):
        accounts = [f'account {name}.{word} 1000 0' for name in 'abcdef' for word in 'klmnopqrst']
        lines = [f'branch {name} {2 if name == "a" else 0}' for name in 'abcdef'] + accounts
        for number in (1, 2):
            lines += [f'batch {number} a 50 50'] + ['entry a.k b.k 1'] * 50
        lines += ['night', 'cut 20 take a', 'cut 20 take a']
        lines += ['cut 20 post a 1', 'cut 20 carry a b'] * 50 + ['cut 20 credit c', 'dawn', 'balance b.k']
        lines += ['carry a b ' + ' '.join(['1'] * 2500)] * 5
        lines += ['letters a b'] * (400 - len(lines))
        text = '\n'.join(lines)
        self.assertEqual((len(lines), len(text) <= 40000), (400, True))
        shown = day_report(text)
        self.assertEqual((shown[:3], shown[-1]), (('too early', 'b.k: 1100', '100 of 100'), '100 of 100'))
        self.assertEqual(day_report(plain_day(text)), shown)
