"""Points 13 and 20: places and houses that texts write, and what cannot stand in them."""

import unittest

from ledcalls.housereadings import read_house, read_place
from samples import ANN, BOB, DESK, HOUSE, NO_STRINGS, VOX, Strict, group, house, phone

HOUSE_TEXT = """border kept lost
phone ann 0 kept
setting - - bob desk -
phone bob 1 own
setting - - - ann -
setting 0,1 vox - ann -
group desk 0 kept turns vox ann bob
box vox 1
bar bob vox"""
NO_NAMES = ('', '-', '0', 'Ann', 'ann-', 'abcdefghi', 'a1', 'a,b', 'ann\t', '_', '"ann"')
NO_LINKS = NO_NAMES[:1] + NO_NAMES[2:] + ('--',)
NO_HOURS = (
    '', '24', '00', '01', '3,', ',3', '3,,4', '4,3', '3,3', '3,03', '-1', '3,-', '-,3', '3;4', '3.', 'a', '3,a',
    '+3', '0x1', '100', '3,24', '1,2,3,2', '--', '1-2', 'ann', '9' * 60)
FALL = {
    'border': ((('kept', 'lost'), ('', '-', 'own', 'Kept', 'kep', '0')),) * 2,
    'phone': ((('ann', 'box'), NO_NAMES), (('0', '1'), ('', '-', '2', '00', '01', '-1', 'a', '+1')),
              (('own', 'kept'), ('', '-', 'lost', 'Own', 'kept,', '0'))),
    'setting': (
        (('3', '0,23', '0,1,2,3,4,5,6,7,8,9,10,11,12,13,14,15,16,17,18,19,20,21,22,23'), NO_HOURS),
        (('vox', 'abcdefgh'), NO_NAMES), (('-', 'a'), NO_LINKS), (('-', 'a'), NO_LINKS), (('-', 'a'), NO_LINKS)),
    'group': ((('desk',), NO_NAMES), (('0', '1'), ('', '2', '-', '10')), (('own', 'kept'), ('', 'lost', '-')),
              (('together', 'turns'), ('', 'turn', '-', 'Turns', 'own')), (('-', 'a', 'desk'), NO_LINKS),
              (('a', 'desk', 'group', 'turns'), NO_NAMES)),
    'box': ((('vox', 'abcdefgh', 'bar'), NO_NAMES), (('0', '1'), ('', '2', '-', '1,', '01'))),
    'bar': ((('a', 'vox'), NO_NAMES), (('a', 'vox'), NO_NAMES)),
}
# For each word that begins a line: possible lines ahead of it.
AHEAD = {
    'border': [], 'phone': ['border kept kept'], 'setting': ['border kept kept', 'phone a 0 own'],
    'group': ['border lost lost', 'box a 1'], 'box': ['border kept lost', 'phone a 0 own', 'setting - - - - -'],
    'bar': ['border kept lost', 'box a 1'],
}


class TestReadings(Strict):

    def test_what_is_written(self):
        self.assert_same(read_house(HOUSE_TEXT), HOUSE)
        self.assert_same(read_house(text='border lost kept\nbox vox 1'), (('lost', 'kept'), (), (VOX,)))
        self.assert_same(read_place('phone ann 0 kept\nsetting - - bob desk -'), ANN)
        self.assert_same(read_place('phone bob 1 own\nsetting - - - ann -\nsetting 0,1 vox - ann -'), BOB)
        self.assert_same(read_place('group desk 0 kept turns vox ann bob'), DESK)
        self.assert_same(read_place(line=7, text='group g 1 own together - g'), group(
            'g', 'g', side=1, shows='own', way='together'))
        self.assert_same(read_place('box vox 1', line=10 ** 59), VOX)

    def test_it_may_be_no_house(self):
        self.assert_same(
            read_house('border kept kept\nbox a 0\nbox a 1\ngroup g 0 own turns no g\nbar g g\nbar x y'),
            house(('box', 'a', 0), ('box', 'a', 1), group('g', 'g', shows='own', after='no'),
                  bars=(('g', 'g'), ('x', 'y'))))
        self.assert_same(
            read_house('border kept kept\nphone a 0 own\nsetting 5,17 no - no -\nphone a 0 own\nsetting - - a - -'),
            house(phone('a', ((5, 17), 'no', '', 'no', ''), shows='own'),
                  phone('a', ((), '', 'a', '', ''), shows='own')))

    def test_names_that_are_words_of_lines(self):
        text = 'border kept kept\nphone setting 0 own\nsetting 1 box phone group bar\ngroup bar 0 own turns - own kept'
        self.assert_same(read_house(text), house(
            phone('setting', ((1,), 'box', 'phone', 'group', 'bar'), shows='own'),
            group('bar', 'own', 'kept', shows='own')))

    def test_a_setting_of_another_phone_may_be_less(self):
        rows = ['border kept kept', 'phone a 0 own', 'setting - - b - -', 'setting 3 a - - -', 'phone b 0 own',
                'setting - - - - -', 'setting - - b - -', 'phone c 0 own', 'setting - - b - -']
        self.assertEqual([len(place[4]) for place in read_house('\n'.join(rows))[2]], [2, 2, 1])


class TestWords(Strict):

    def assert_fault(self, rows, line, field):
        with self.subTest(rows=rows):
            self.assert_text(line, field, read_house, '\n'.join(rows))

    def rows_of(self, kind):
        """The rows ahead of one of this kind, that row of standing words, and how many it needs."""
        words = [kind] + [stand[0] for stand, _ in FALL[kind]]
        return AHEAD[kind], words, len(words)

    def test_each_word_that_can_stand(self):
        for kind, fall in FALL.items():
            ahead, words, _ = self.rows_of(kind)
            for k, (stand, _) in enumerate(fall):
                for word in stand:
                    row = ' '.join([*words[:k + 1], word, *words[k + 2:]])
                    behind = {'border': ['box a 0'], 'phone': ['setting - - - - -']}.get(kind, [])
                    self.assertEqual(len(read_house('\n'.join([*ahead, row, *behind]))), 3)

    def test_each_word_that_cannot_stand(self):
        for kind, fall in FALL.items():
            ahead, words, _ = self.rows_of(kind)
            for k, (_, odd) in enumerate(fall):
                for word in odd:
                    if '\n' in word:
                        continue
                    for behind in (words[k + 2:], [], ['', ''], [*words[k + 2:], 'more']):
                        row = ' '.join([*words[:k + 1], word, *behind])
                        self.assert_fault([*ahead, row], len(ahead), k + 1)
                        self.assert_fault([*ahead, row, '', 'odd'], len(ahead), k + 1)

    def test_missing_words(self):
        for kind in FALL:
            ahead, words, many = self.rows_of(kind)
            for k in range(1, many):
                self.assert_fault([*ahead, ' '.join(words[:k])], len(ahead), k)
                self.assert_fault([*ahead, ' '.join(words[:k]), 'odd'], len(ahead), k)
                self.assert_fault([*ahead, ' '.join([*words[:k], ''])], len(ahead), k)

    def test_a_word_too_many(self):
        for kind in FALL:
            ahead, words, many = self.rows_of(kind)
            for more in ('', 'ann ') if kind == 'group' else ('', 'more', '-', ' '):
                field = many + 1 if more == 'ann ' else many
                self.assert_fault([*ahead, ' '.join([*words, more])], len(ahead), field)
                self.assert_fault([*ahead, ' '.join([*words, more, 'a']), 'odd'], len(ahead), field)

    def test_spaces(self):
        self.assert_fault([' border kept kept', 'box a 0'], 0, 0)
        self.assert_fault(['border  kept kept', 'box a 0'], 0, 1)
        self.assert_fault(['border kept kept', 'box a 0 '], 1, 3)
        self.assert_fault(['border kept kept', ' '], 1, 0)

    def test_early_goes_with_hours(self):
        ahead = AHEAD['setting']
        self.assert_fault([*ahead, 'setting - a - - -'], 2, 2)
        self.assert_fault([*ahead, 'setting 3 - - - -'], 2, 2)
        self.assert_fault([*ahead, 'setting - a'], 2, 2)
        self.assert_fault([*ahead, 'setting -'], 2, 2)
        self.assert_fault([*ahead, 'setting -  - - -'], 2, 2)
        self.assert_fault([*ahead, 'setting 24 -'], 2, 1)

    def test_members_are_different(self):
        self.assert_fault(['border kept kept', 'group g 0 own turns - a a'], 1, 7)
        self.assert_fault(['border kept kept', 'group g 0 own turns b a b c a x'], 1, 9)
        self.assert_fault(['border kept kept', 'group g 0 own turns b a b c  x'], 1, 9)
        self.assert_fault(['border kept kept', 'group g 0 own turns b g turns own - x'], 1, 9)
        self.assert_same(
            read_place('group g 0 own turns g g own turns group b'),
            group('g', 'g', 'own', 'turns', 'group', 'b', shows='own', after='g'))

    def test_settings_ascend(self):
        ahead = ['border kept kept', 'phone a 0 own', 'setting 3 b - c -']
        for row in ('setting 3 b - c -', 'setting - - - - -', 'setting 2,5 b - c -', 'setting 3 a - c -',
                    'setting 3 b - b -', 'setting - - z z z'):
            self.assert_fault([*ahead, row], 3, 5)
            self.assert_fault([*ahead, row + ' more'], 3, 5)
            self.assert_fault([*ahead, row + ' '], 3, 5)
            self.assert_fault([*ahead, row, 'odd'], 3, 5)
            self.assert_fault([*ahead, row[:-2]], 3, 5)
            self.assert_fault([*ahead, row[:-4]], 3, 4)
        for row in ('setting 3 b - c a', 'setting 3 b a - -', 'setting 3,4 a - - -', 'setting 10 a - - -'):
            self.assertEqual(len(read_house('\n'.join([*ahead, row]))[2][0][4]), 2)
            self.assert_fault([*ahead, row + ' more'], 3, 6)

    def test_bars_ascend(self):
        ahead = ['border kept kept', 'box a 0', 'bar b c']
        for row in ('bar b c', 'bar b b', 'bar a z', 'bar ab c'):
            self.assert_fault([*ahead, row], 3, 2)
            self.assert_fault([*ahead, row + ' more'], 3, 2)
            self.assert_fault([*ahead, row + ' ', 'odd'], 3, 2)
        self.assert_fault([*ahead, 'bar a'], 3, 2)
        self.assert_fault([*ahead, 'bar a '], 3, 2)
        for row in ('bar b ca', 'bar b d', 'bar ba a', 'bar c a'):
            self.assertEqual(len(read_house('\n'.join([*ahead, row]))[1]), 2)
            self.assert_fault([*ahead, row + ' more'], 3, 3)


class TestLines(Strict):

    GOOD = {
        'border': 'border kept kept', 'phone': 'phone b 0 own', 'setting': 'setting 3 a - - -',
        'group': 'group g 0 own turns - a', 'box': 'box c 0', 'bar': 'bar z z', '': '', 'odd': 'odd', '-': '- -'}
    # The words with which the row behind one that begins with the first word can begin.
    BEHIND = {
        'border': ('phone', 'group', 'box'), 'phone': ('setting',),
        'setting': ('setting', 'phone', 'group', 'box', 'bar'), 'group': ('phone', 'group', 'box', 'bar'),
        'box': ('phone', 'group', 'box', 'bar'), 'bar': ('bar',)}
    LAST = {
        'border': ['border kept kept'], 'phone': ['border kept kept', 'phone a 0 own'],
        'setting': ['border kept kept', 'phone a 0 own', 'setting - - - - -'],
        'group': ['border kept kept', 'group g 1 own turns - a'], 'box': ['border kept kept', 'box a 1'],
        'bar': ['border kept kept', 'box a 1', 'bar a a']}

    def test_what_stands_behind_what(self):
        for last, rows in self.LAST.items():
            for word, row in self.GOOD.items():
                with self.subTest(last=last, word=word):
                    text = '\n'.join([*rows, row])
                    if word not in self.BEHIND[last]:
                        self.assert_text(len(rows), 0, read_house, text)
                    elif word == 'phone':
                        self.assert_text(len(rows) + 1, 0, read_house, text)
                    else:
                        self.assertEqual(len(read_house(text)), 3)

    def test_the_first_line(self):
        for word, row in self.GOOD.items():
            if word != 'border':
                self.assert_text(0, 0, read_house, row)
                self.assert_text(0, 0, read_house, row + '\nbox a 0')
        self.assert_text(0, 0, read_house, '')
        self.assert_text(0, 0, read_house, '\nborder kept kept\nbox a 0')
        self.assert_text(0, 0, read_house, 'Border kept kept\nbox a 0')

    def test_a_line_that_is_missing(self):
        self.assert_text(1, 0, read_house, 'border kept kept')
        self.assert_text(0, 2, read_house, 'border kept')
        self.assert_text(4, 0, read_house, 'border kept kept\nbox a 0\nbox b 0\nphone a 0 own')
        self.assert_text(1, 0, read_place, 'phone a 0 own')
        self.assert_text(8, 0, read_place, 'phone a 0 own', line=7)

    def test_a_newline_begins_a_new_line_also_at_the_end(self):
        self.assert_text(1, 0, read_house, 'border kept kept\n')
        self.assert_text(9, 0, read_house, HOUSE_TEXT + '\n')
        self.assert_text(2, 0, read_house, 'border kept kept\nbox a 0\n\nbox b 0')
        self.assert_text(1, 0, read_place, 'box a 0\n')
        self.assert_text(1, 0, read_place, 'phone a 0 own\n')
        self.assert_text(0, 0, read_place, '\nbox a 0')

    def test_lines_of_a_place(self):
        for word, row in self.GOOD.items():
            with self.subTest(word=word):
                if word not in ('phone', 'group', 'box'):
                    self.assert_text(0, 0, read_place, row)
                    self.assert_text(5, 0, read_place, row, line=5)
                if word != 'setting':
                    self.assert_text(2, 0, read_place, 'phone a 0 own\nsetting - - - - -\n' + row)
                    self.assert_text(2, 0, read_place, 'phone a 0 own\n' + row, line=1)
                self.assert_text(1, 0, read_place, 'box a 0\n' + row)
                self.assert_text(4, 0, read_place, 'group g 0 own turns - a\n' + row, line=3)
        self.assert_text(0, 0, read_place, '')
        self.assert_text(9, 0, read_place, '', line=9)
        self.assert_text(6, 5, read_place, 'phone a 0 own\nsetting 3,12 b - - -\nsetting 3,12 b - - -', line=4)
        self.assert_text(10 ** 59 + 1, 1, read_place, 'phone a 0 own\nsetting 24 b - - -', line=10 ** 59)
        self.assert_text(0, 1, read_place, 'box A 0\nodd')

    def test_the_first_impossible_line_is_told(self):
        rows = HOUSE_TEXT.split('\n')
        for k in range(len(rows)):
            self.assert_text(k, 0, read_house, '\n'.join([*rows[:k], 'odd' + rows[k], *rows[k + 1:], 'odd']))
            self.assert_text(
                k, len(rows[k].split(' ')), read_house, '\n'.join([*rows[:k], rows[k] + ' ', *rows[k + 1:], 'odd']))

    def test_not_usable(self):
        self.assert_each_unusable('text', NO_STRINGS, read_house)
        self.assert_each_unusable('text', NO_STRINGS, read_place)
        self.assert_each_unusable('text', NO_STRINGS, lambda thing: read_place(thing, line=-1))
        for odd in (None, True, False, -1, -10 ** 59, '', '0', [], [0], (), (0,)):
            with self.subTest(line=odd):
                self.assert_unusable('line', read_place, 'box a 0', line=odd)
                self.assert_unusable('line', read_place, 'odd', line=odd)
        self.assertRaises(TypeError, read_place, 'box a 0', 0)


if __name__ == '__main__':
    unittest.main()
