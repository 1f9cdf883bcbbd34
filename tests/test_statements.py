import itertools
import random

from oncebooked.errors import BadAccount, BadDraft, BadNumber, BadPages, BadPostings
from oncebooked.statements import adds_up, is_draft, joined_pages, least_mends, paged, read_draft, shows_least_mends
from oncebooked.statements import shows_why, statement_text, steps_off, why_fewest
from tests.test_shelves import Raising
from tests.values import is_climbing, is_int, near_values, odd_values, same

GOOD = ('statement a.ann', 'before 100', 'posting 3 -30 70', 'posting 7 5 75', 'behind 75')
OFF = 'statement a.ann\nbefore 100\nposting 3 -30 80\nposting 7 5 75\nposting 8 1 77\nbehind 77'
WITH_DRAFT = (read_draft, adds_up, steps_off, least_mends, why_fewest)


def draft_of(before, rows, behind):
    """The draft with these (amount, balance) for its postings."""
    lines = [f'posting {at + 1} {amount} {balance}' for at, (amount, balance) in enumerate(rows)]
    return '\n'.join(['statement a.b', f'before {before}'] + lines + [f'behind {behind}'])


def drawn_draft(draw, most=4, size=2):
    rows = [(draw.randint(-size, size), draw.randint(-size, size)) for _ in range(draw.randint(0, most))]
    return draft_of(draw.randint(-size, size), rows, draw.randint(-size, size))


def places_in(draft):
    """(line, word, place) for each number that a mend can be for, in the sequence of mends: place is that of the word."""
    found = []
    for number, line in enumerate(draft.split('\n'), 1):
        words = line.split(' ')
        if words[0] in ('before', 'behind'):
            found.append((number, 'balance', 1))
        if words[0] == 'posting':
            found += [(number, 'amount', 2), (number, 'balance', 3)]
    return found


def offs(draft):
    """By how much each step is off, read word by word."""
    rows = [line.split(' ') for line in draft.split('\n')]
    found = []
    for ahead, row in zip(rows[1:], rows[2:]):
        amount = int(row[2]) if row[0] == 'posting' else 0
        found.append(int(row[-1]) - int(ahead[-1]) - amount)
    return found


def with_numbers(draft, mends):
    """The draft with other numbers, as (line, word, place) and number."""
    rows = [line.split(' ') for line in draft.split('\n')]
    for (line, _, place), number in mends:
        rows[line - 1][place] = str(number)
    return '\n'.join(' '.join(row) for row in rows)


def can_mend(draft, freed):
    """Whether the draft can be made to add up if just these numbers may be any integers: gone through line by line.

    What a balance can be is either one number or any.
    """
    rows = [line.split(' ') for line in draft.split('\n')]
    is_free = {(line, word): True for line, word, _ in freed}
    have = None if (2, 'balance') in is_free else int(rows[1][1])
    for number, row in list(enumerate(rows, 1))[2:]:
        amount = int(row[2]) if row[0] == 'posting' else 0
        come = None if have is None or (number, 'amount') in is_free else have + amount
        if (number, 'balance') in is_free:
            have = come
        elif come is not None and come != int(row[-1]):
            return False
        else:
            have = int(row[-1])
    return True


def fewest_mends(draft):
    places = places_in(draft)
    for many in range(len(places) + 1):
        if any(can_mend(draft, freed) for freed in itertools.combinations(places, many)):
            return many


def zero_stretches(draft):
    """All runs of consecutive steps that are off by 0 in all, as ranges of their numbers."""
    told = offs(draft)
    return [range(begin + 1, end + 1) for begin in range(len(told)) for end in range(begin + 1, len(told) + 1)
            if sum(told[begin:end]) == 0]


def meets_all(draft, steps):
    return all(any(step in stretch for step in steps) for stretch in zero_stretches(draft))


def fewest_steps(draft):
    many = len(offs(draft))
    for count in range(many + 1):
        if any(meets_all(draft, steps) for steps in itertools.combinations(range(1, many + 1), count)):
            return count


def is_mending(draft, value, fewest):
    """Whether value is (count, mends) as point 9 tells it, looked at in the most plodding way."""
    if type(value) is not tuple or len(value) != 2 or not is_int(value[0], fewest, fewest):
        return False
    if type(value[1]) is not tuple or len(value[1]) != fewest:
        return False
    places = {(line, word): (line, word, place) for line, word, place in places_in(draft)}
    mends = []
    for mend in value[1]:
        if type(mend) is not tuple or len(mend) != 3 or not is_int(mend[0]) or type(mend[1]) is not str:
            return False
        if mend[:2] not in places or not is_int(mend[2]):
            return False
        mends.append((places[mend[:2]], mend[2]))
    rows = [line.split(' ') for line in draft.split('\n')]
    if any(rows[line - 1][place] == str(number) for (line, _, place), number in mends):
        return False
    if [mend[:2] for mend in value[1]] != sorted({mend[:2] for mend in value[1]}):
        return False
    return not any(offs(with_numbers(draft, mends)))


class OfDrafts(Raising):

    def refused_by_all(self, number, draft):
        self.assertIs(is_draft(draft), False)
        for function in WITH_DRAFT:
            self.refused(BadDraft, number, function, draft)
        self.refused(BadDraft, number, shows_least_mends, draft, None)
        self.refused(BadDraft, number, shows_why, draft, None)

    def test_read(self):
        told = ('a.ann', 100, ((3, -30, 80), (7, 5, 75), (8, 1, 77)), 77)
        self.assertTrue(same(read_draft(OFF), told))
        self.assertTrue(same(read_draft('statement abcdefgh.z\nbefore -5\nbehind 0'), ('abcdefgh.z', -5, (), 0)))
        self.assertIs(is_draft(OFF), True)

    def test_greatest_and_least(self):
        most = 10 ** 18
        lines = [f'posting {10 ** 9 - 500 + at} {most} {-most}' for at in range(1, 501)]
        draft = '\n'.join(['statement a.b', f'before {-most}'] + lines + [f'behind {most}'])
        told = read_draft(draft)
        self.assertEqual((told[1], told[3], len(told[2]), told[2][-1]), (-most, most, 500, (10 ** 9, most, -most)))
        self.assertIs(adds_up(draft), False)
        self.assertEqual(steps_off(draft), tuple((step, -most) for step in range(1, 501)) + ((501, 2 * most),))
        self.assertEqual(least_mends(draft)[0] + len(why_fewest(draft)), 501)
        self.refused_by_all(503, '\n'.join(draft.split('\n')[:-1] + ['posting 1000000000 1 1', 'behind 0']))
        more = draft.split('\n')
        more.insert(2, 'posting 1 0 0')
        self.refused_by_all(503, '\n'.join(more))

    def test_no_strings(self):
        for value in odd_values():
            if not isinstance(value, str):
                self.refused_by_all(0, value)
            else:
                self.refused_by_all(1, value)

    def test_lines_that_cannot_stand(self):
        wrong = {1: ('', 'statement', 'statement a', 'statement a.b.c', 'statement a.B', 'statement a.b c', 'statement  a.b',
                     'statement a.b ', ' statement a.b', 'Statement a.b', 'statement\ta.b', 'before 1', 'statement .b',
                     'statement abcdefghi.b'),
                 2: ('', 'before', 'before 1 2', 'before 01', 'before -0', 'before +1', 'before x', 'before 1000000000000000001',
                     'before -1000000000000000001', 'behind 1', 'posting 1 1 1', 'before  1', 'before 1 ', 'before 1.0'),
                 3: ('', 'posting', 'posting 1 1', 'posting 1 1 1 1', 'posting 0 1 1', 'posting -1 1 1', 'posting 1000000001 1 1',
                     'posting 01 1 1', 'posting 1 x 1', 'posting 1 1 x', 'posting 1 1000000000000000001 1',
                     'posting 1 1 -1000000000000000001', 'posting 1 +1 1', 'posting 1 1 00', 'posting  1 1 1', 'posting 1 1 1 ',
                     'before 1', 'statement a.b', 'behind', 'behind x', 'behind 1 1', 'behind 01', 'Posting 1 1 1')}
        lines = ['statement a.ann', 'before 100', 'posting 3 -30 70', 'posting 7 5 75', 'behind 75']
        for number, rows in wrong.items():
            for row in rows:
                self.refused_by_all(number, '\n'.join(lines[:number - 1] + [row] + lines[number:]))
                self.refused_by_all(number, '\n'.join(lines[:number - 1] + [row]))
        for row in wrong[3]:
            self.refused_by_all(5, '\n'.join(lines[:4] + [row]))
        for row in ('posting 3 5 75', 'posting 2 5 75'):
            self.refused_by_all(4, '\n'.join(lines[:3] + [row] + lines[4:]))
        for row in ('posting 7 5 75', 'posting 5 5 75', 'posting 3 5 75'):
            self.refused_by_all(5, '\n'.join(lines[:4] + [row] + lines[4:]))
        for row in ('', 'behind 75', 'posting 8 0 75', 'x'):
            self.refused_by_all(6, '\n'.join(lines + [row]))
            self.refused_by_all(6, '\n'.join(lines + [row, row]))

    def test_lines_that_lack(self):
        for many in range(1, 5):
            self.refused_by_all(many + 1, '\n'.join(GOOD[:many]))

    def test_steps(self):
        self.assertEqual(steps_off('\n'.join(GOOD)), ())
        self.assertIs(adds_up('\n'.join(GOOD)), True)
        self.assertTrue(same(steps_off('statement a.b\nbefore 5\nbehind 4'), ((1, -1),)))
        draw = random.Random(31)
        for _ in range(200):
            draft = drawn_draft(draw)
            told = offs(draft)
            self.assertEqual(steps_off(draft), tuple((at, off) for at, off in enumerate(told, 1) if off))
            self.assertIs(adds_up(draft), not any(told))


class OfMends(Raising):

    def test_fewest_beside_all_lots_of_numbers(self):
        draw = random.Random(32)
        for _ in range(250):
            draft = drawn_draft(draw, 4, draw.choice((1, 2, 5)))
            fewest = fewest_mends(draft)
            told = least_mends(draft)
            self.assertTrue(is_mending(draft, told, fewest), (draft, told))
            self.assertIs(shows_least_mends(draft, told), True)
            why = why_fewest(draft)
            self.assertEqual((len(why), fewest + len(why)), (fewest_steps(draft), len(offs(draft))))
            self.assertTrue(is_climbing(why, 1, len(offs(draft))) and meets_all(draft, why))
            self.assertIs(shows_why(draft, why), True)
            self.assertIs(adds_up(draft), fewest == 0)

    def test_shows_least_mends_of_all_mends_with_small_numbers(self):
        draw = random.Random(33)
        for _ in range(12):
            draft = drawn_draft(draw, 2, 1)
            fewest = fewest_mends(draft)
            if fewest > 2:
                continue
            found = 0
            for places in itertools.product(places_in(draft), repeat=fewest):
                for numbers in itertools.product(range(-4, 5), repeat=fewest):
                    value = (fewest, tuple(place[:2] + (number,) for place, number in zip(places, numbers)))
                    is_right = is_mending(draft, value, fewest)
                    found += is_right
                    self.assertIs(shows_least_mends(draft, value), is_right, (draft, value))
            self.assertGreater(found, 0)

    def test_shows_least_mends_of_values_near_it(self):
        draw = random.Random(34)
        for _ in range(60):
            draft = drawn_draft(draw, 5, draw.choice((1, 3, 9)))
            fewest = fewest_mends(draft)
            for value in near_values(least_mends(draft)) + odd_values():
                self.assertIs(shows_least_mends(draft, value), is_mending(draft, value, fewest), (draft, value))

    def test_mends_beyond_what_can_be_written(self):
        draft = f'statement a.b\nbefore {10 ** 18}\nposting 1 {-10 ** 18} {10 ** 18}\nbehind {-10 ** 18}'
        self.assertEqual(least_mends(draft)[0], 2)
        self.assertTrue(shows_least_mends(draft, least_mends(draft)))
        one = 'statement a.b\nbefore 0\nposting 1 1000000000000000000 5\nposting 2 1000000000000000000 2000000000000000000'
        self.refused(BadDraft, 4, least_mends, one)
        draft = f'statement a.b\nbefore {10 ** 18}\nposting 1 {10 ** 18} 5\nposting 2 {-10 ** 18} {10 ** 18}\nbehind {10 ** 18}'
        self.assertEqual(least_mends(draft), (1, ((3, 'balance', 2 * 10 ** 18),)))

    def test_the_same_number_twice(self):
        draft = 'statement a.b\nbefore 0\nposting 1 1 5\nbehind 7'
        self.assertEqual(least_mends(draft)[0], 2)
        self.assertFalse(shows_least_mends(draft, (2, ((3, 'balance', 2), (3, 'balance', 7)))))
        self.assertTrue(shows_least_mends(draft, (2, ((3, 'amount', 7), (3, 'balance', 7)))))
        self.assertFalse(shows_least_mends(draft, (2, ((3, 'balance', 7), (3, 'amount', 7)))))
        self.assertFalse(shows_least_mends(draft, (3, ((2, 'balance', 1), (3, 'amount', 6), (3, 'balance', 7)))))

    def test_shows_why_of_all_values(self):
        draw = random.Random(35)
        for _ in range(60):
            draft = drawn_draft(draw, 5, draw.choice((1, 2, 5)))
            fewest, many = fewest_steps(draft), len(offs(draft))
            for count in range(many + 1):
                for steps in itertools.combinations(range(0, many + 2), count):
                    is_right = count == fewest and is_climbing(steps, 1, many) and meets_all(draft, steps)
                    self.assertIs(shows_why(draft, steps), is_right)
            for value in near_values(why_fewest(draft)) + odd_values():
                is_right = is_climbing(value, 1, many) and len(value) == fewest and meets_all(draft, value)
                self.assertIs(shows_why(draft, value), is_right, (draft, value))

    def test_great_drafts(self):
        draw = random.Random(36)
        for size in (1, 3, 10 ** 18):
            draft = draft_of(0, [(draw.randint(-size, size), draw.randint(-size, size)) for _ in range(500)], 0)
            told, why = least_mends(draft), why_fewest(draft)
            self.assertEqual(told[0] + len(why), 501)
            self.assertTrue(shows_least_mends(draft, told) and shows_why(draft, why))
            places = {(line, word): (line, word, place) for line, word, place in places_in(draft)}
            mended = with_numbers(draft, [(places[mend[:2]], mend[2]) for mend in told[1]])
            self.assertFalse(any(offs(mended)))


class OfStatements(Raising):

    def test_text(self):
        self.assertEqual(statement_text('a.ann', 100, ((3, -30), (7, 5))), '\n'.join(GOOD))
        self.assertEqual(statement_text('a.b', -10 ** 15, ()), f'statement a.b\nbefore {-10 ** 15}\nbehind {-10 ** 15}')
        postings = tuple((10 ** 9 - 500 + at, 10 ** 12) for at in range(1, 501))
        text = statement_text('a.b', 10 ** 15, postings)
        self.assertTrue(is_draft(text) and adds_up(text))
        self.assertEqual(read_draft(text)[3], 10 ** 15 + 500 * 10 ** 12)
        self.assertTrue(adds_up(statement_text('a.b', 0, ((1, -10 ** 12), (2, 0)))))

    def bad_postings(self):
        return [value for value in odd_values() if not same(value, ())] + [
            [(1, 1)], ((1, 1), (1, 1)), ((2, 1), (1, 1)), ((0, 1),), ((10 ** 9 + 1, 1),), ((1, 10 ** 12 + 1),),
            ((1, -10 ** 12 - 1),), ((True, 1),), ((1, True),), ((1, 1, 1),), ((1,),), ([1, 1],), (('1', 1),), ((1, None),),
            ((1, 1), None), tuple((at + 1, 0) for at in range(501))]

    def test_errors_in_their_sequence(self):
        for function, more in ((statement_text, ()), (paged, (None,)), (paged, (5,))):
            for value in odd_values():
                if not same(value, 'a.b'):
                    self.refused(BadAccount, value, function, value, None, None, *more)
                    self.refused(BadAccount, value, function, value, 0, (), *more)
            for value in odd_values() + [10 ** 15 + 1, -10 ** 15 - 1, '1']:
                if not is_int(value, -1, 1):
                    self.refused(BadNumber, value, function, 'a.b', value, None, *more)
                    self.refused(BadNumber, value, function, 'a.b', value, (), *more)
            for value in self.bad_postings():
                self.refused(BadPostings, value, function, 'a.b', 0, value, *more)
        for value in odd_values() + [0, 501, '1']:
            if not is_int(value, 1, 500):
                self.refused(BadNumber, value, paged, 'a.b', 0, (), value)

    def test_pages(self):
        draw = random.Random(37)
        for _ in range(150):
            many = draw.choice((0, 1, 2, 7, 20, 500))
            numbers = sorted(draw.sample(range(1, 10 ** 6), many))
            postings = tuple((number, draw.randint(-10 ** 12, 10 ** 12)) for number in numbers)
            before, lines = draw.randint(-10 ** 15, 10 ** 15), draw.choice((1, 2, 3, 7, 100, 500))
            pages = paged('a.b', before, postings, lines)
            self.assertEqual(len(pages), max(1, -(-many // lines)))
            told = [read_draft(page) for page in pages]
            self.assertTrue(all(adds_up(page) for page in pages))
            self.assertEqual([len(page[2]) for page in told[:-1]], [lines] * (len(pages) - 1))
            self.assertEqual([page[1] for page in told], [before] + [page[3] for page in told[:-1]])
            self.assertEqual(joined_pages(pages), ('a.b', before, postings))
            if lines >= many:
                self.assertEqual(pages, (statement_text('a.b', before, postings),))
        self.assertTrue(same(paged('a.b', 5, (), 1), ('statement a.b\nbefore 5\nbehind 5',)))

    def test_joined_beyond_what_a_statement_holds(self):
        pages = tuple(page for at in range(3) for page in paged('a.b', at * 500, tuple((at * 500 + k, 1) for k in range(1, 501)), 500))
        self.assertEqual(joined_pages(pages), ('a.b', 0, tuple((k, 1) for k in range(1, 1501))))
        most = f'statement a.b\nbefore 0\nposting 1 {10 ** 18} {10 ** 18}\nbehind {10 ** 18}'
        self.assertEqual(joined_pages((most,)), ('a.b', 0, ((1, 10 ** 18),)))

    def test_bad_pages(self):
        one = 'statement a.b\nbefore 0\nposting 3 5 5\nbehind 5'
        two = 'statement a.b\nbefore 5\nposting 4 -1 4\nbehind 4'
        empty = 'statement a.b\nbefore 5\nbehind 5'
        self.assertEqual(joined_pages((one, empty, two)), ('a.b', 0, ((3, 5), (4, -1))))
        self.assertEqual(joined_pages((empty,)), ('a.b', 5, ()))
        self.assertEqual(joined_pages((empty, empty, two)), ('a.b', 5, ((4, -1),)))
        self.refused(BadPages, None, joined_pages, one)
        for value in odd_values() + [[one], (one,)]:
            if not isinstance(value, tuple) or value == ():
                self.refused(BadPages, None, joined_pages, value)
            self.refused(BadPages, 1, joined_pages, (one, value, None))
            self.refused(BadPages, 0, joined_pages, (value, one))
        off = 'statement a.b\nbefore 5\nposting 4 1 7\nbehind 7'
        late = 'statement a.b\nbefore 5\nposting 4 1 6\nbehind 7'
        other = 'statement a.c\nbefore 5\nposting 4 -1 4\nbehind 4'
        begins = 'statement a.b\nbefore 6\nposting 4 -1 5\nbehind 5'
        again = 'statement a.b\nbefore 5\nposting 3 -1 4\nbehind 4'
        sooner = 'statement a.b\nbefore 5\nposting 2 -1 4\nbehind 4'
        for page in (off, late, other, begins, again, sooner):
            self.refused(BadPages, 1, joined_pages, (one, page, None))
            self.refused(BadPages, 2, joined_pages, (one, empty, page))
        for page in (off, late):
            self.refused(BadPages, 0, joined_pages, (page,))
        three, five = 'statement a.b\nbefore 5\nposting 4 0 5\nposting 9 0 5\nbehind 5', 'statement a.b\nbefore 5\nposting 7 0 5\nbehind 5'
        self.refused(BadPages, 2, joined_pages, (one, three, five))
