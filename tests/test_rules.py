import itertools
import random

from oncebooked.errors import BadNumber, BadRule, BadWeaving, BadWords
from oncebooked.runners import is_rule, is_wrong, judged_rule, played, rule_of, shows_rule
from tests.test_shelves import Raising
from tests.values import is_int, near_values, odd_values, same

SITUATIONS = tuple(itertools.product((False, True), (-1, 0, 1), (False, True), (False, True)))
WORDS = ('held', 'later', 'newest', 'undone')
TAKE, OUT = ('take',), ('out',)


class Shelf:
    """Takings of one step, told event by event as section 13 tells them."""

    def __init__(self, rule, parts):
        self.rule, self.parts = rule, parts
        self.written, self.stopped, self.let = {}, set(), []
        self.holder, self.cells, self.done, self.numbers = None, [0] * parts, False, []

    def copy(self):
        twin = Shelf(self.rule, self.parts)
        twin.written, twin.stopped, twin.let = dict(self.written), set(self.stopped), list(self.let)
        twin.holder, twin.cells, twin.done, twin.numbers = self.holder, list(self.cells), self.done, list(self.numbers)
        return twin

    def can(self, event):
        if type(event) is not tuple:
            return False
        if event == TAKE:
            return self.holder is None and not self.done
        if event == OUT:
            return self.holder is not None
        if len(event) != 2 or event[0] != 'write' or not is_int(event[1], 1, len(self.written)):
            return False
        return event[1] not in self.stopped and self.written[event[1]] < self.parts

    def events(self, takings):
        found = [TAKE] if self.can(TAKE) and len(self.written) < takings else []
        found += [OUT] if self.can(OUT) else []
        return found + [('write', number) for number in self.written if self.can(('write', number))]

    def do(self, event):
        """Does the event; whether it makes the weaving wrong."""
        was_done = self.done
        if event == TAKE:
            self.holder = len(self.written) + 1
            self.written[self.holder] = 0
        elif event == OUT:
            self.holder = None
        else:
            number = event[1]
            greatest = max(self.numbers, default=number - 1)
            order = (number > greatest) - (number < greatest)
            is_let = (number == max(self.written), order, self.holder == number, self.done) in self.rule
            self.let.append(is_let)
            if not is_let:
                self.stopped.add(number)
                return False
            self.cells[self.written[number]] = number
            self.written[number] += 1
            self.numbers.append(number)
            if self.written[number] == self.parts:
                self.done = True
                self.holder = None if self.holder == number else self.holder
            if was_done:
                return True
        return self.done and len(set(self.cells)) > 1


def first_fault(rule, parts, weaving):
    """(number of the first event that cannot be, None if all can; for each event whether it makes it wrong; the shelf)."""
    shelf, wrong = Shelf(rule, parts), []
    for at, event in enumerate(weaving):
        if not shelf.can(event):
            return at, wrong, shelf
        wrong.append(shelf.do(event))
    return None, wrong, shelf


def fewest_events(rule, parts, takings, most=30):
    """The fewest events of a wrong weaving, by going through all weavings, the shorter ones first."""
    front = [Shelf(rule, parts)]
    for many in range(1, most):
        later = []
        for shelf in front:
            for event in shelf.events(takings):
                after = shelf.copy()
                if after.do(event):
                    return many
                later.append(after)
        if not later:
            return None
        front = later


def is_told(rule, parts, takings, value, fewest):
    if fewest is None:
        return same(value, ('safe',))
    if type(value) is not tuple or len(value) != 2 or value[0] != 'wrong' or type(value[1]) is not tuple:
        return False
    fault, wrong, shelf = first_fault(rule, parts, value[1])
    return fault is None and len(wrong) == fewest and wrong[-1] and not any(wrong[:-1]) and len(shelf.written) <= takings


def drawn_rule(draw):
    share = draw.choice((0.2, 0.5, 0.8, 0.95))
    if draw.random() < 0.4:
        words = tuple(word for word in WORDS if draw.random() < 0.5)
        return tuple(part for part in rule_of(words) if draw.random() < 0.9)
    return tuple(part for part in SITUATIONS if draw.random() < share)


def drawn_weaving(draw, rule, parts, takings=4, most=14):
    shelf, weaving = Shelf(rule, parts), []
    while len(weaving) < most and shelf.events(takings):
        weaving.append(draw.choice(shelf.events(takings)))
        shelf.do(weaving[-1])
    return tuple(weaving)


def no_rules():
    one = SITUATIONS[0]
    return [value for value in odd_values() if not same(value, ())] + [
        list(SITUATIONS), SITUATIONS[::-1], (one, one), (list(one),), (one[:3],), (one + (True,),), ((0, -1, False, False),),
        ((False, -2, False, False),), ((False, 2, False, False),), ((False, True, False, False),), ((False, 0, 0, False),),
        ((False, 0, False, 1),), ((False, 0, False, None),), ((False, None, False, False),), SITUATIONS + (None,), (None,)]


def no_numbers(low, high):
    return [value for value in odd_values() + [low - 1, high + 1, '1', (1,)] if not is_int(value, low, high)]


class OfRules(Raising):

    def test_rules(self):
        self.assertEqual(SITUATIONS, tuple(sorted(SITUATIONS)))
        for rule in ((), SITUATIONS, SITUATIONS[3:9], SITUATIONS[::2]):
            self.assertIs(is_rule(rule), True)
        for value in no_rules():
            self.assertIs(is_rule(value), False, value)

    def test_rule_of(self):
        for many in range(5):
            for words in itertools.combinations(WORDS, many):
                right = tuple((newest, order, held, done) for newest, order, held, done in SITUATIONS
                              if (held or 'held' not in words) and (order != -1 or 'later' not in words)
                              and (newest or 'newest' not in words) and (not done or 'undone' not in words))
                self.assertTrue(same(rule_of(words), right))
                if many > 1:
                    self.refused(BadWords, words[::-1], rule_of, words[::-1])
        for value in [value for value in odd_values() if not same(value, ())] + [
                ['held'], ('held', 'held'), ('later', 'held'), ('none',), ('held', None), 'held', ('Held',), (['held'],), ('',)]:
            self.refused(BadWords, value, rule_of, value)

    def test_errors_in_their_sequence(self):
        for value in no_rules():
            self.refused(BadRule, value, played, value, None, None)
            self.refused(BadRule, value, is_wrong, value, None, None)
            self.refused(BadRule, value, judged_rule, value, None, None)
            self.refused(BadRule, value, shows_rule, value, None, None, None)
        for value in no_numbers(1, 3):
            self.refused(BadNumber, value, played, (), value, None)
            self.refused(BadNumber, value, is_wrong, (), value, None)
            self.refused(BadNumber, value, judged_rule, (), value, None)
            self.refused(BadNumber, value, shows_rule, (), value, None, None)
        for value in no_numbers(1, 4):
            self.refused(BadNumber, value, judged_rule, (), 1, value)
            self.refused(BadNumber, value, shows_rule, (), 1, value, None)


class OfWeavings(Raising):

    def refused_by_both(self, number, rule, parts, weaving):
        self.refused(BadWeaving, number, played, rule, parts, weaving)
        self.refused(BadWeaving, number, is_wrong, rule, parts, weaving)

    def test_events_that_cannot_be(self):
        whole = rule_of(())
        for value in odd_values() + [[TAKE]]:
            if not isinstance(value, tuple):
                self.refused_by_both(None, whole, 2, value)
            self.refused_by_both(1, whole, 2, (TAKE, value, None))
            self.refused_by_both(0, whole, 2, (value, TAKE))
        self.refused_by_both(None, whole, 1, (TAKE, OUT) * 100 + (TAKE,))
        self.assertEqual(played(whole, 1, (TAKE, OUT) * 100)[:2], (100, None))
        self.refused_by_both(199, whole, 1, (TAKE, OUT) * 99 + (TAKE, TAKE))
        done = (TAKE, ('write', 1), ('write', 1))
        for ahead, event in (((), OUT), ((TAKE,), TAKE), ((TAKE, OUT), OUT), (done, TAKE), (done, OUT), (done, ('write', 1)),
                             ((TAKE,), ('write', 2)), ((TAKE,), ('write', 0)), ((TAKE,), ('write', True)), ((TAKE,), ('write', -1)),
                             ((TAKE,), ('write',)), ((TAKE,), ('write', 1, 1)), ((TAKE,), ['write', 1]), ((TAKE,), ('Write', 1)),
                             ((TAKE,), ('out', 1)), ((TAKE,), 'out'), ((TAKE,), ['out']), ((TAKE, OUT), ('take', 2)),
                             ((TAKE, OUT), ['take']), ((TAKE,), ('write', '1')), ((TAKE,), ('write', None)), ((), ('write', 1))):
            self.refused_by_both(len(ahead), whole, 2, ahead + (event,))
            self.refused_by_both(len(ahead), whole, 2, ahead + (event, TAKE, None))
        self.refused_by_both(2, (), 2, (TAKE, ('write', 1), ('write', 1)))

    def test_a_lock_is_free_if_its_own_taking_is_done(self):
        whole = rule_of(())
        other = (TAKE, ('write', 1), OUT, TAKE, ('write', 1))
        self.assertTrue(same(played(whole, 2, other), (2, 2, (1, 1), True, (True, True))))
        self.assertTrue(same(played(whole, 2, other + (OUT,)), (2, None, (1, 1), True, (True, True))))
        self.refused_by_both(6, whole, 2, other + (OUT, TAKE))
        self.assertTrue(same(played(whole, 1, (TAKE, ('write', 1))), (1, None, (1,), True, (True,))))
        self.assertTrue(same(played((), 3, (TAKE, ('write', 1))), (1, 1, (0, 0, 0), False, (False,))))
        self.assertTrue(same(played((), 3, ()), (0, None, (0, 0, 0), False, ())))

    def test_drawn(self):
        draw = random.Random(84)
        for _ in range(1500):
            rule, parts = drawn_rule(draw), draw.randint(1, 3)
            weaving = drawn_weaving(draw, rule, parts)
            _, wrong, shelf = first_fault(rule, parts, weaving)
            told = (len(shelf.written), shelf.holder, tuple(shelf.cells), shelf.done, tuple(shelf.let))
            self.assertTrue(same(played(rule, parts, weaving), told))
            for many in range(len(weaving) + 1):
                is_right = many > 0 and wrong[many - 1] and not any(wrong[:many - 1])
                self.assertIs(is_wrong(rule, parts, weaving[:many]), is_right)
            if weaving:
                for value in draw.sample(near_values(weaving), 5):
                    if type(value) is tuple:
                        fault = first_fault(rule, parts, value)[0]
                        if fault is not None:
                            self.refused_by_both(fault, rule, parts, value)


class OfJudging(Raising):

    def test_beside_all_weavings(self):
        draw = random.Random(85)
        for parts, takings, times in ((1, 1, 15), (2, 1, 15), (3, 1, 15), (1, 2, 40), (2, 2, 60), (1, 3, 25), (3, 2, 12)):
            for _ in range(times):
                rule = drawn_rule(draw)
                fewest = fewest_events(rule, parts, takings)
                told = judged_rule(rule, parts, takings)
                self.assertTrue(is_told(rule, parts, takings, told, fewest), (rule, parts, takings, told, fewest))
                values = near_values(told)
                for value in [told, ('safe',), ('wrong', ())] + draw.sample(values, min(40, len(values))) + odd_values():
                    self.assertIs(shows_rule(rule, parts, takings, value), is_told(rule, parts, takings, value, fewest),
                                  (rule, parts, takings, value))

    def test_shows_rule_of_all_weavings_of_that_length(self):
        for words, parts in ((('undone',), 2), ((), 2), (('later',), 1)):
            rule = rule_of(words)
            told = judged_rule(rule, parts, 2)
            many = len(told[1])
            rows = [((), Shelf(rule, parts))]
            for _ in range(many):
                rows = [(weaving + (event,), shelf, event) for weaving, shelf in rows for event in shelf.events(3)]
                rows = [(weaving, self.behind(shelf, event)) for weaving, shelf, event in rows]
            found = 0
            for weaving, shelf in rows:
                is_right = is_told(rule, parts, 2, ('wrong', weaving), many)
                found += is_right
                self.assertIs(shows_rule(rule, parts, 2, ('wrong', weaving)), is_right)
            self.assertGreater(found, 0)
            longer = ('wrong', (TAKE, OUT) + told[1])
            self.assertIs(shows_rule(rule, parts, 2, longer), False)

    def behind(self, shelf, event):
        after = shelf.copy()
        after.do(event)
        return after

    def test_safe_ones(self):
        for parts in (1, 2, 3):
            for takings in (1, 2, 3, 4):
                for words in (('newest',), ('held',), ('later', 'undone'), WORDS):
                    self.assertTrue(same(judged_rule(rule_of(words), parts, takings), ('safe',)))
                    self.assertIs(shows_rule(rule_of(words), parts, takings, ('safe',)), True)

    def test_parts_of_safe_ones_are_safe_and_more_takings_no_safer(self):
        draw = random.Random(86)
        for _ in range(60):
            safe = rule_of(draw.choice((('newest',), ('held',), ('later', 'undone'))))
            rule = tuple(part for part in safe if draw.random() < 0.7)
            self.assertEqual(judged_rule(rule, draw.randint(1, 3), draw.randint(1, 4)), ('safe',))
            rule, parts = drawn_rule(draw), draw.randint(1, 3)
            told = [judged_rule(rule, parts, takings) for takings in (1, 2, 3, 4)]
            many = [len(row[1]) if row[0] == 'wrong' else 99 for row in told]
            self.assertEqual(many, sorted(many, reverse=True))
            self.assertTrue(all(shows_rule(rule, parts, takings, row) for takings, row in enumerate(told, 1)))
