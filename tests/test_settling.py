import itertools
import random

from oncebooked.errors import BadEntries, BadFirsts, BadNets, NoAccount
from oncebooked.settling import groups, least_settling, netted, shows_groups, shows_settling, statements_of, trial
from oncebooked.statements import adds_up, read_draft
from tests.test_shelves import Raising
from tests.values import is_int, near_values, odd_values, same

NAMES = ('a.ann', 'a.bob', 'b.cy', 'b.dee', 'b.eve', 'c.flo', 'c.gil')
FIRSTS = (('a.ann', 50), ('a.bob', 0), ('b.cy', 1))
ENTRIES = (('a.ann', 'a.bob', 10), ('a.bob', 'b.cy', 4), ('b.cy', 'a.ann', 4))
NETS = (('a.ann', -7), ('a.bob', 5), ('b.cy', 2), ('b.dee', -3), ('b.eve', 3))


def drawn_entries(draw, names, most=12):
    return tuple(draw.sample(names, 2) + [draw.randint(1, 30)] for _ in range(draw.randint(0, most)))


def drawn_nets(draw, many, size):
    """Nets of so many accounts, with small amounts, so that there are many lots."""
    while True:
        amounts = [draw.choice([-1, 1]) * draw.randint(1, size) for _ in range(many)]
        if many:
            amounts[-1] -= sum(amounts)
        if 0 not in amounts:
            return tuple(zip(sorted(draw.sample(NAMES, many)), amounts))


def partings(row):
    """All ways to part a row into lots."""
    if not row:
        yield ()
        return
    for lots in partings(row[1:]):
        yield ((row[0],),) + lots
        for at, lot in enumerate(lots):
            yield lots[:at] + ((row[0],) + lot,) + lots[at + 1:]


def best_partings(nets):
    """All that groups may return, by going through all partings."""
    amounts = dict(nets)
    right = [lots for lots in partings([account for account, _ in nets])
             if all(sum(amounts[account] for account in lot) == 0 for lot in lots)]
    most = max(len(lots) for lots in right)
    return {tuple(sorted(tuple(sorted(lot)) for lot in lots)) for lots in right if len(lots) == most}


def settles(nets, transfers):
    """Whether the transfers leave each account as the nets ask for."""
    have = {account: 0 for transfer in transfers for account in transfer[:2]}
    for payer, payee, amount in transfers:
        have[payer] -= amount
        have[payee] += amount
    asked = dict(nets)
    return all(have.get(account, 0) == asked.get(account, 0) for account in set(have) | set(asked))


def is_settling(nets, value, fewest):
    """Whether value is (count, transfers) as point 9 tells it."""
    if type(value) is not tuple or len(value) != 2 or not is_int(value[0], fewest, fewest):
        return False
    if type(value[1]) is not tuple or len(value[1]) != fewest:
        return False
    for part in value[1]:
        if type(part) is not tuple or len(part) != 3 or not is_int(part[2], 1) or part[0] == part[1]:
            return False
        if not all(type(account) is str and account.count('.') == 1 for account in part[:2]):
            return False
    return list(value[1]) == sorted(set(value[1])) and settles(nets, value[1])


def not_as(value):
    """Values that are not equal to this one."""
    return [other for other in odd_values() if not same(other, value)]


class OfBooks(Raising):

    def test_statements_beside_entry_by_entry(self):
        draw = random.Random(41)
        for _ in range(150):
            names = sorted(draw.sample(NAMES, draw.randint(2, 7)))
            firsts = tuple((name, draw.randint(-100, 100)) for name in names)
            entries = tuple(map(tuple, drawn_entries(draw, names)))
            told = statements_of(firsts, entries)
            rows, total = trial(firsts, entries)
            self.assertEqual([read_draft(text)[:2] for text in told], list(firsts))
            for (account, before), text, row in zip(firsts, told, rows):
                have, postings, out, come = before, [], 0, 0
                for number, (payer, payee, amount) in enumerate(entries, 1):
                    if account in (payer, payee):
                        change = amount if account == payee else -amount
                        have += change
                        postings.append((number, change, have))
                        out, come = out + max(-change, 0), come + max(change, 0)
                self.assertEqual(read_draft(text), (account, before, tuple(postings), have))
                self.assertTrue(adds_up(text))
                self.assertEqual(row, (account, out, come, have))
            self.assertEqual(total, sum(row[1] for row in rows))
            self.assertEqual(total, sum(row[2] for row in rows))
            self.assertEqual(sum(row[3] for row in rows), sum(balance for _, balance in firsts))
            differ = tuple((row[0], row[3] - first[1]) for row, first in zip(rows, firsts) if row[3] != first[1])
            self.assertEqual(netted(entries), differ)

    def test_kinds(self):
        self.assertTrue(same(trial((), ()), ((), 0)))
        self.assertTrue(same(statements_of((), ()), ()))
        self.assertTrue(same(statements_of((('a.b', -5),), ()), ('statement a.b\nbefore -5\nbehind -5',)))
        self.assertTrue(same(trial((('a.b', -5),), ()), ((('a.b', 0, 0, -5),), 0)))
        self.assertTrue(same(netted(()), ()))
        self.assertTrue(same(netted((('b.b', 'a.a', 3),)), (('a.a', 3), ('b.b', -3))))

    def test_greatest(self):
        names = sorted(f'a.{one}{other}' for one in 'abcdefghij' for other in 'abcdefghij')
        firsts = tuple((name, 10 ** 15) for name in names)
        entries = tuple((names[0], names[1 + at % 99], 10 ** 12) for at in range(500))
        told = statements_of(firsts, entries)
        self.assertEqual((len(told), len(read_draft(told[0])[2]), read_draft(told[0])[3]), (100, 500, 10 ** 15 // 2))
        self.assertEqual(trial(firsts, entries)[1], 500 * 10 ** 12)
        self.refused(BadFirsts, firsts + (('b.a', 0),), trial, firsts + (('b.a', 0),), entries)
        self.refused(BadEntries, entries + entries[:1], trial, firsts, entries + entries[:1])
        self.refused(BadEntries, entries + entries[:1], netted, entries + entries[:1])

    def bad_firsts(self):
        return not_as(()) + [
            list(FIRSTS), FIRSTS[::-1], FIRSTS[:1] * 2, (('a.ann', 1), ('a.ann', 2)), (('a.ann', 10 ** 15 + 1),),
            (('a.ann', -10 ** 15 - 1),), (('a.ann', True),), (('a.ann', '1'),), (('a.ann', None),), (('ann', 1),),
            (('a.ann.x', 1),), (('a.Ann', 1),), (['a.ann', 1],), (('a.ann',),), (('a.ann', 1, 1),), (1,), FIRSTS + (None,)]

    def bad_entries(self):
        return not_as(()) + [
            list(ENTRIES), (list(ENTRIES[0]),), (('a.ann', 'a.ann', 1),), (('a.ann', 'a.bob', 0),), (('a.ann', 'a.bob', -1),),
            (('a.ann', 'a.bob', 10 ** 12 + 1),), (('a.ann', 'a.bob', True),), (('a.ann', 'a.bob', '1'),), (('a.ann', 'a.bob'),),
            (('a.ann', 'a.bob', 1, 1),), (('ann', 'a.bob', 1),), (('a.ann', 'bob', 1),), (('a.ann', None, 1),),
            ENTRIES + (None,), (('x.y', 'a.ann', 1), None)]

    def test_errors_in_their_sequence(self):
        for function in (statements_of, trial):
            for value in self.bad_firsts():
                self.refused(BadFirsts, value, function, value, None)
                self.refused(BadFirsts, value, function, value, (('x.y', 'x.z', 1),))
            for value in self.bad_entries():
                self.refused(BadEntries, value, function, FIRSTS, value)
            for entries, account in (((('x.y', 'x.z', 1),), 'x.y'), ((('a.ann', 'x.z', 1), ('x.y', 'a.ann', 1)), 'x.z'),
                                     (ENTRIES + (('x.y', 'a.ann', 1),), 'x.y')):
                self.refused(NoAccount, account, function, FIRSTS, entries)
                self.refused(NoAccount, entries[0][0], function, (), entries)
        for value in self.bad_entries():
            self.refused(BadEntries, value, netted, value)


class OfSettling(Raising):

    def test_beside_all_partings(self):
        draw = random.Random(42)
        for _ in range(120):
            nets = drawn_nets(draw, draw.choice((0, 2, 3, 4, 5, 6, 7)), draw.choice((1, 2, 4, 100)))
            right = best_partings(nets) if nets else {()}
            told = groups(nets)
            self.assertIn(told, right)
            for lots in right:
                self.assertIs(shows_groups(nets, lots), True)
            many = len(nets) - len(told)
            settled = least_settling(nets)
            self.assertTrue(is_settling(nets, settled, many), (nets, settled))
            self.assertIs(shows_settling(nets, settled), True)
            for value in near_values(told) + odd_values():
                self.assertIs(shows_groups(nets, value), any(same(value, lots) for lots in right), (nets, value))
            for value in near_values(settled) + odd_values():
                self.assertIs(shows_settling(nets, value), is_settling(nets, value, many), (nets, value))

    def test_shows_groups_of_all_partings(self):
        draw = random.Random(43)
        for _ in range(20):
            nets = drawn_nets(draw, 6, 2)
            right = best_partings(nets)
            for lots in partings([account for account, _ in nets]):
                value = tuple(sorted(tuple(sorted(lot)) for lot in lots))
                self.assertIs(shows_groups(nets, value), value in right)
                self.assertIs(shows_groups(nets, value[::-1]), value in right and len(value) == 1)

    def test_fewest_transfers_beside_all_lots_of_transfers(self):
        draw = random.Random(44)
        for _ in range(12):
            nets = drawn_nets(draw, draw.choice((2, 3, 4)), 2)
            names = [account for account, _ in nets] + ['z.z']
            some = [(payer, payee, amount) for payer in names for payee in names if payer != payee for amount in range(1, 5)]
            fewest = least_settling(nets)[0]
            for many in range(min(fewest, 2) + 1):
                for transfers in itertools.combinations(some, many):
                    value = (many, tuple(sorted(transfers)))
                    is_right = many == fewest and settles(nets, transfers)
                    self.assertFalse(settles(nets, transfers) and many < fewest)
                    self.assertIs(shows_settling(nets, value), is_right)

    def test_transfers_of_all_kinds(self):
        self.assertTrue(shows_settling(NETS, (3, (('a.ann', 'a.bob', 5), ('a.ann', 'b.cy', 2), ('b.dee', 'b.eve', 3)))))
        self.assertTrue(shows_settling(NETS, (3, (('a.ann', 'a.bob', 7), ('a.bob', 'b.cy', 2), ('b.dee', 'b.eve', 3)))))
        self.assertFalse(shows_settling(NETS, (3, (('a.ann', 'b.cy', 2), ('a.ann', 'a.bob', 5), ('b.dee', 'b.eve', 3)))))
        self.assertFalse(shows_settling(NETS, (4, (('a.ann', 'a.bob', 4), ('a.ann', 'b.cy', 3), ('b.cy', 'a.bob', 1),
                                                  ('b.dee', 'b.eve', 3)))))
        # Amounts below 0 are no amounts, though the same would come about.
        self.assertFalse(shows_settling(NETS, (3, (('a.ann', 'a.bob', 5), ('a.ann', 'b.cy', 2), ('b.eve', 'b.dee', -3)))))
        self.assertFalse(shows_settling((('a.ann', -3), ('a.bob', 3)), (1, (('a.bob', 'a.ann', -3),))))
        # An empty lot is none, though the lots are as many.
        self.assertFalse(shows_groups(NETS, ((), ('a.ann', 'a.bob', 'b.cy', 'b.dee', 'b.eve'))))
        self.assertTrue(same(least_settling(()), (0, ())))
        self.assertTrue(same(groups(()), ()))
        self.assertTrue(shows_groups((), ()) and shows_settling((), (0, ())))
        self.assertFalse(shows_settling((), (False, ())) or shows_groups((), ((),)))
        great = (('a.ann', 10 ** 15), ('a.bob', 10 ** 15), ('b.cy', -10 ** 15), ('b.dee', -10 ** 15))
        self.assertEqual((least_settling(great)[0], len(groups(great))), (2, 2))
        chain = (('a.ann', -10 ** 15), ('a.bob', -10 ** 15 + 1), ('b.cy', 10 ** 15), ('b.dee', 10 ** 15), ('b.eve', -1))
        self.assertEqual((least_settling(chain)[0], len(groups(chain))), (3, 2))

    def test_twelve_accounts(self):
        names = sorted(f'a.{letter}' for letter in 'abcdefghijkl')
        draw = random.Random(45)
        for size in (1, 3, 20, 10 ** 14):
            amounts = [draw.choice((-1, 1)) * draw.randint(1, size) for _ in range(11)]
            amounts.append(-sum(amounts) or 1)
            amounts[0] -= sum(amounts)
            if 0 in amounts:
                amounts = [1, -1] * 6
            nets = tuple(zip(names, amounts))
            told = groups(nets)
            self.assertEqual(least_settling(nets)[0] + len(told), 12)
            self.assertTrue(shows_groups(nets, told) and shows_settling(nets, least_settling(nets)))
        self.assertEqual(len(groups(tuple(zip(names, [1, -1] * 6)))), 6)
        self.assertEqual(len(groups(tuple(zip(names, [1] * 11 + [-11])))), 1)
        self.assertEqual(len(groups(tuple(zip(names, [3, 5, -8, 7, 11, -18, 13, 19, -32, 100, 200, -300])))), 4)

    def test_bad_nets(self):
        bad = not_as(()) + [
            list(NETS), NETS[::-1], NETS[:1], NETS[:4], (('a.ann', 0),), (('a.ann', 0), ('a.bob', 0)),
            (('a.ann', 1), ('a.ann', -1)), (('a.ann', 1), ('a.bob', True), ('b.cy', -2)), (('a.ann', 1), ('a.bob', '-1')),
            (('ann', 1), ('bob', -1)), (['a.ann', 1], ['a.bob', -1]), (('a.ann', 10 ** 15 + 1), ('a.bob', -10 ** 15 - 1)),
            (('a.ann', 1, 1), ('a.bob', -1, 1)), NETS + (None,),
            tuple((f'a.{letter}', 1) for letter in 'abcdefghijkl') + (('a.m', -12),)]
        for value in bad:
            for function in (groups, least_settling):
                self.refused(BadNets, value, function, value)
            for function in (shows_groups, shows_settling):
                self.refused(BadNets, value, function, value, None)
