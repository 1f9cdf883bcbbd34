from oncebooked.desk import desk_text, read_desk
from oncebooked.errors import BadDesk
from tests.test_desk import CUT, FIRST, led, NIGHT, POST, TAKE, TEXT, whole
from tests.test_shelves import Raising
from tests.values import odd_values

BANK = ['bank b 4'] + TEXT.split('\n')
RUN = ['night n b 3', 'batch 1 east 2 70', 'entry east.ann west.cid 30', 'entry east.ann west.cid 40']
# The number of the line behind these two deeds, with the line ahead of them that tells how many stand.
BEHIND = 11
FULL = ['stand 2'] + BANK + RUN


class OfTexts(Raising):

    def test_text(self):
        desk = led(*FIRST, TAKE, CUT, POST, ('call', 'n', ('carry', 'east', 'west', ())),
                   ('call', 'n', ('carry', 'east', 'west', (2, 1, 1))), ('copy', 'n', 'm'), ('dawn', 'm'),
                   ('call', 'm', ('credit', 'east')), ('drop', 'n'), ('bank', 'a', 'branch z 0'), ('night', 'z', 'a', ((),)))
        desk.note('two')
        desk.undo()
        desk.undo()
        desk.note('one')
        lines = ['stand 11', 'note one 11', 'note two 13'] + BANK + RUN + [
            'call n take east 1', 'call n cut east 1 0', 'call n post east 2', 'call n carry east west',
            'call n carry east west 2 1 1', 'copy n m', 'dawn m', 'call m credit east', 'drop n', 'bank a 1', 'branch z 0',
            'night z a 0']
        self.assertEqual(desk_text(desk).split('\n'), lines)
        other = read_desk('\n'.join(lines))
        self.assertEqual(whole(other), whole(desk))

    def test_texts_that_are_read(self):
        for lines in (['stand 0'], ['stand 0', 'note a 0', 'note b 0'], ['stand 0'] + BANK, ['stand 1'] + BANK, FULL,
                      ['stand 0', 'note z 2'] + FULL[1:], FULL + ['drop n', 'drop b'],
                      FULL + ['call n cut west 1000 1000000000000', 'call n post east 1000000']):
            self.assertEqual(desk_text(read_desk('\n'.join(lines))).split('\n'), lines)


class OfFaults(Raising):

    def faulty(self, number, lines):
        self.refused(BadDesk, number, read_desk, '\n'.join(lines))

    def test_no_texts(self):
        for value in odd_values():
            self.refused(BadDesk, 1 if isinstance(value, str) else 0, read_desk, value)

    def test_first_line(self):
        for line in ('', 'stand', 'stand x', 'stand -1', 'stand 01', 'stand 0 0', 'stand  0', 'stand 0 ', ' stand 0', 'Stand 0',
                     'stand 1000000000000000', 'note a 0', 'bank b 4', 'stand\t0'):
            self.faulty(1, [line])
            self.faulty(1, [line] + FULL[1:])
            self.faulty(1, [line, 'x'])

    def test_notes(self):
        for line in ('note', 'note b', 'note b x', 'note b -1', 'note b 01', 'note b 0 0', 'note B 0', 'note abcdefghi 0', 'note  b 0',
                     'note a 0', 'note a 1', 'note b 1000000000000000', 'note b 0 '):
            self.faulty(3, ['stand 0', 'note a 0', line])
            self.faulty(3, ['stand 9', 'note a 9', line, 'x'])
        self.faulty(3, ['stand 0', 'note b 0', 'note a 0'] + FULL[1:])
        self.faulty(4, ['stand 0', 'note a 0', 'note c 0', 'note b 0'] + FULL[1:])
        self.faulty(BEHIND, FULL + ['note a 0'])
        self.faulty(7, ['stand 1'] + BANK + ['note a 1'])

    def test_numbers_above_that_of_all_deeds_are_told_last(self):
        self.faulty(1, ['stand 1'])
        self.faulty(1, ['stand 3'] + FULL[1:])
        self.faulty(1, ['stand 999999999999999'] + FULL[1:])
        self.faulty(1, ['stand 3', 'note a 3', 'note b 4'] + FULL[1:])
        self.faulty(2, ['stand 2', 'note a 3', 'note b 4'] + FULL[1:])
        self.faulty(3, ['stand 0', 'note a 2', 'note b 3', 'note c 3'] + FULL[1:])
        self.faulty(2, ['stand 0', 'note a 1'])
        self.faulty(2, ['stand 5', 'x'])
        self.faulty(3, ['stand 5', 'note a 7', 'x'] + FULL[1:])
        self.faulty(BEHIND, ['stand 5'] + FULL[1:] + ['drop x'])
        self.faulty(BEHIND + 2, ['stand 5', 'note a 9'] + FULL[1:] + ['bank a 1'])
        self.assertEqual(len(read_desk('\n'.join(['stand 1', 'note a 2', 'note b 0'] + FULL[1:])).all_deeds()[0]), 1)

    def test_lines_without_a_form(self):
        for line in ('', 'x', 'stand 2', 'bank', 'bank a', 'bank a 0', 'bank a x', 'bank A 1', 'bank a 01', 'bank a 1 1',
                     'bank abcdefghi 1', 'bank a -1', 'bank a 1000000000000000', 'night', 'night a', 'night a b', 'night a b -1',
                     'night A b 3', 'night a B 3', 'night a b 3 3', 'night a b 03', 'night a b 1000000000000000', 'call', 'call n',
                     'call n take', 'call n take east', 'call n take east x', 'call n take east 1 1', 'call n take East 1',
                     'call N take east 1', 'call n take east 01', 'call n post east', 'call n post east -1', 'call n post east 1 1',
                     'call n post east 1000000000000000', 'call n carry east', 'call n carry east west x', 'call n carry east 1',
                     'call n carry east west 01', 'call n credit', 'call n credit east 1', 'call n cut east', 'call n cut east 1',
                     'call n cut east 1 1 1', 'call n dawn', 'call n x east 1', 'call n  take east 1', 'dawn', 'dawn n n', 'dawn N',
                     'copy', 'copy n', 'copy n M', 'copy n m m', 'drop', 'drop N', 'drop n ', ' drop n', 'Drop n', 'undo', 'redo'):
            self.faulty(BEHIND, FULL + [line])
            self.faulty(BEHIND, FULL + [line, 'x', 'y'])

    def test_first_lines_of_texts_with_a_word_too_many_or_too_few(self):
        for line, rows in (('bank a b 1', ['branch a 0']), ('bank 1', ['branch a 0']), ('night m b c 3', RUN[1:]),
                           ('night m 3', RUN[1:]), ('night b 3', RUN[1:])):
            self.faulty(BEHIND, FULL + [line] + rows)
            self.faulty(BEHIND, FULL + [line])

    def test_deeds_that_are_refused(self):
        for line in ('call n take east 0', 'call n take east 2', 'call n take west 1', 'call n take up 1', 'call x take east 1',
                     'call b take east 1', 'call n post east 1000001', 'call n carry east east 1', 'call n carry east west 0',
                     'call n credit east', 'call n credit up', 'call n cut east 1001 0', 'call n cut east 0 1000000000001',
                     'dawn b', 'dawn x', 'copy x m', 'copy n b', 'drop x', 'night a n 0', 'night a x 0', 'night n b 0'):
            self.faulty(BEHIND, FULL + [line])
            self.faulty(BEHIND, FULL + [line, 'x', 'y'])
        for rows in (['bank a 1', 'x'], ['bank b 1', 'branch a 0'], ['bank a 2', 'branch a 0', 'branch a 0'], ['bank a 1', ''],
                     ['bank a 3', 'branch a 0', '', 'x']):
            self.faulty(BEHIND, FULL + rows)
            self.faulty(BEHIND, FULL + rows + ['x'])

    def test_deeds_are_refused_behind_those_ahead_of_them(self):
        # All deeds are done in their sequence, also those that are undone.
        self.faulty(BEHIND + 1, ['stand 0'] + FULL[1:] + ['drop n', 'drop n'])
        self.faulty(BEHIND + 1, ['stand 2'] + FULL[1:] + ['drop n', 'dawn n'])
        self.faulty(2, ['stand 0'] + RUN + BANK)
        self.assertEqual(len(read_desk('\n'.join(FULL + ['drop n'] + RUN)).all_deeds()[1]), 2)

    def test_nights(self):
        at = len(BANK) + 2
        night = RUN[1:]
        for count, rows in ((4, night + ['batch 2 east 0 0']), (2, night[:2]), (0, []), (1, ['batch 1 east 0 0'][:0] + ['x']),
                            (3, [night[0], 'x', night[2]]), (3, ['batch 1 east 2 71'] + night[1:]), (3, ['batch 1 east 1 30'] + night[1:]),
                            (3, ['batch 1 east 3 70'] + night[1:]), (4, night + ['']), (4, [''] + night), (1, ['batch 1 west 0 0']),
                            (1, ['batch 2 east 0 0']), (4, ['batch 1 west 0 0'] + night)):
            lines = ['stand 0'] + BANK + [f'night n b {count}'] + rows
            self.faulty(at, lines)
            self.faulty(at, lines + ['x'])
        self.assertEqual(read_desk('\n'.join(FULL)).thing_of('n').night, NIGHT)

    def test_lines_of_a_text_that_lack(self):
        for many in range(1, len(BANK)):
            self.faulty(many + 2, ['stand 0'] + BANK[:many])
        for many in range(1, len(RUN)):
            self.faulty(len(BANK) + many + 2, ['stand 0'] + BANK + RUN[:many])
        # Whatever else would be refused of this deed.
        for rows in (['bank b 2', 'x'], ['bank b 999999999999999'], ['night n x 1'], ['night b n 5', 'x', 'y'], ['night a b 2', ''],
                     ['bank a 3', 'x', '']):
            self.faulty(len(FULL) + len(rows) + 1, FULL + rows)
        # But deeds ahead of it, and a first line without its form, are told all the same.
        self.faulty(BEHIND, FULL + ['drop x', 'bank a 5'])
        self.faulty(BEHIND, FULL + ['bank A 5'])
        self.faulty(BEHIND, FULL + ['night a B 5', 'x'])

    def test_lines_of_a_text_have_no_form(self):
        lines = ['stand 1', 'bank b 2', 'branch note 0', 'branch stand 0']
        self.assertEqual(desk_text(read_desk('\n'.join(lines))).split('\n'), lines)
