"""Points 2, 3 and 11: the forms of values."""

import unittest

from ledcalls import kinds
from samples import ANN, BOB, DESK, HOUSE, ODD, VOX, Strict, group, nested, phone

PLAIN = ((), '', '', '', '')
NO_SETTINGS = (
    ((), '', '', ''), ((), '', '', '', '', ''), [(), '', '', '', ''], (None, '', '', '', ''),
    ((), 'ann', '', '', ''), ((3,), '', '', '', ''), ((), '', '-', '', ''), ((), '', '', 'Ann', ''),
    ((), '', '', '', None), ((), '', '', '', 0), ((), None, '', '', ''), ((3,), None, '', '', ''),
    ([], '', '', '', ''), ([3], 'ann', '', '', ''), ((True,), 'ann', '', '', ''),
    ((0, True), 'ann', '', '', ''), ((3, 2), 'ann', '', '', ''), ((3, 3), 'ann', '', '', ''),
    ((24,), 'ann', '', '', ''), ((-1,), 'ann', '', '', ''), ((3,), ['ann'], '', '', ''),
    ((3,), ('ann',), '', '', ''), ((), '', [], '', ''), ((), '', '', (), ''), ((), '', 'a b', '', ''),
    (3, 'ann', '', '', ''), ('', '', '', '', ''), (((3,),), 'ann', '', '', ''))


class TestSimpleKinds(Strict):

    def test_the_tuples(self):
        self.assert_same(kinds.STANDINGS, ('answers', 'unheard', 'busy', 'off'))
        self.assert_same(kinds.WAYS, ('together', 'turns'))
        self.assert_same(kinds.HARMS, ('round', 'twice', 'lost', 'barred'))

    def judge(self, function, good, bad):
        for thing in good:
            self.assert_same((thing, function(thing)), (thing, True))
        for thing in bad:
            self.assert_same((thing, function(thing)), (thing, False))

    def test_integers(self):
        good = (0, 1, -1, 24, 10 ** 59, -10 ** 59)
        self.judge(kinds.is_integer, good, (None, True, False, '', '1', [], [1], (), (1,), nested(1, 30)))

    def test_numbers(self):
        good = (0, 1, 24, 10 ** 59)
        self.judge(kinds.is_number, good, (-1, -10 ** 59, None, True, False, '', '1', [], [1], (1,)))

    def test_names(self):
        good = ('a', 'z', 'ann', 'abcdefgh', 'box', 'phone', 'own')
        bad = (
            '', ' ', '-', 'abcdefghi', 'Ann', 'anN', 'a1', 'a b', ' a', 'a ', 'a\n', '\na', '0', 'a-b',
            'a_b', None, True, 0, [], ['a'], (), ('a',), nested('a', 30), '`', '{')
        self.judge(kinds.is_name, good, bad)

    def test_hours(self):
        bad = (24, -1, 10 ** 59, True, False, None, '', '3', [], [3], (), (3,))
        self.judge(kinds.is_hour, tuple(range(24)), bad)

    def test_sets_of_hours(self):
        good = ((), (0,), (23,), (0, 1), (0, 5, 23), tuple(range(24)))
        bad = (
            (1, 0), (3, 3), (24,), (-1, 0), (True,), (0, True), (False, 1), (0, 1, 1), (0, 2, 1), None,
            True, 0, 3, '', '0', [], [0], [0, 1], ('0',), ((0,),), ([0],), (None,), nested(0, 30))
        self.judge(kinds.is_hours, good, bad)

    def test_borders(self):
        good = tuple((one, two) for one in ('kept', 'lost') for two in ('kept', 'lost'))
        bad = (
            (), ('kept',), ('kept',) * 3, ['kept', 'kept'], ('kept', 'own'), ('own', 'kept'), ('kept', None),
            (True, 'kept'), ('kept', ['kept']), (['lost'], 'kept'), ('kept', ('lost',)), 'kept', None, 0,
            ('kept', ''), ('Kept', 'kept'), ((), ()))
        self.judge(kinds.is_border, good, bad)

    def test_settings(self):
        good = (
            PLAIN, ((), '', 'bob', 'desk', ''), ((0, 1), 'vox', '', 'ann', ''), ((23,), 'a', 'b', 'c', 'd'),
            (tuple(range(24)), 'abcdefgh', '', '', ''))
        self.judge(kinds.is_setting, good, (*NO_SETTINGS, *ODD))

    def test_odd_values_are_of_no_kind(self):
        for thing in ODD:
            with self.subTest(thing=thing):
                self.assert_same(kinds.is_place(thing), False)
                self.assert_same(kinds.is_setting(thing), False)
                self.assert_same(kinds.is_border(thing), False)

    def test_by_name(self):
        for word in ('integer', 'number', 'name', 'hour', 'hours', 'border', 'setting', 'place'):
            self.assert_same(getattr(kinds, 'is_' + word)(thing=None), False)


class TestPlaces(Strict):

    def test_places_by_form(self):
        for place in (
                ANN, BOB, DESK, VOX, phone('a'), phone('abcdefgh', side=1, shows='own'),
                phone('a', ((), '', 'a', 'zzz', 'a'), ((0,), 'unknown', '', '', '')),
                group('a', 'a'), group('a', 'b', 'a', 'c', way='together', shows='own', side=1, after='a'),
                ('box', 'box', 0)):
            with self.subTest(place=place):
                self.assert_same(kinds.is_place(place), True)

    def test_a_part_of_another_kind_makes_it_none(self):
        for place in (ANN, BOB, DESK, VOX):
            for k in range(len(place)):
                for thing in (*ODD, HOUSE):
                    odd = (*place[:k], thing, *place[k + 1:])
                    # A group may lead to nothing or to any name, and have any members.
                    if place is DESK and (k == 6 and thing in ('', 'nobody')):
                        continue
                    if place is DESK and k == 5 and thing in (('ann',), ('ann', 'bob')):
                        continue
                    if k == 1 and thing == 'nobody':
                        continue
                    with self.subTest(place=odd):
                        self.assert_same(kinds.is_place(odd), False)

    def test_another_length_or_a_list_makes_it_none(self):
        for place in (ANN, BOB, DESK, VOX):
            for odd in (place[:-1], (*place, ''), (*place, ()), list(place), (place,), place[::-1], place[1:]):
                with self.subTest(place=odd):
                    self.assert_same(kinds.is_place(odd), False)

    def test_words_of_places(self):
        for odd in (
                ('Box', 'vox', 1), ('phone', 'vox', 1), ('group', 'vox', 1), ('', 'vox', 1), (['box'], 'vox', 1),
                ('box', 'vox', True), ('box', 'vox', False), ('box', 'vox', 2), ('box', 'vox', -1),
                ('box', 'vox', '1'), phone('a', shows='lost'), phone('a', shows=''), phone('a', side=True),
                group('a', 'b', way='together '), group('a', 'b', way='own'), group('a', 'b', shows='turns'),
                group('a', 'b', side=False), ('box', *ANN[1:]), ('group', *ANN[1:]), ('phone', *DESK[1:])):
            with self.subTest(place=odd):
                self.assert_same(kinds.is_place(odd), False)

    def test_settings_of_a_phone(self):
        later = ((0,), 'vox', '', '', '')
        for settings in (
                (), [PLAIN], (PLAIN, PLAIN), (later, PLAIN), (PLAIN, later, later), (PLAIN, list(later)),
                (((), '', 'b', '', ''), ((), '', 'a', '', '')), PLAIN, (((1,), 'a', '', '', ''), later),
                (later, ((0,), 'vox', '', '', '')), (((), '', '', '', 'a'), PLAIN)):
            with self.subTest(settings=settings):
                self.assert_same(kinds.is_place(('phone', 'a', 0, 'own', settings)), False)
        for odd in NO_SETTINGS:
            with self.subTest(setting=odd):
                self.assert_same(kinds.is_place(('phone', 'a', 0, 'own', (odd,))), False)
        many = tuple([((), '', name, '', '') for name in ('', 'a', 'aa', 'b')])
        self.assert_same(kinds.is_place(phone('a', *many, ((0,), 'a', '', '', ''))), True)

    def test_members_of_a_group(self):
        for members in ((), ['ann'], ('ann', 'ann'), ('ann', 'bob', 'ann'), ('',), ('ann', ''), (None,), (1,),
                        (['ann'],), (('ann',),), 'ann', ('Ann',), ('ann', True)):
            with self.subTest(members=members):
                self.assert_same(kinds.is_place(('group', 'a', 0, 'own', 'turns', members, '')), False)


if __name__ == '__main__':
    unittest.main()
