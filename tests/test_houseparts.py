"""Points 8, 13, 14 and 15: parts of houses."""

import unittest

from ledcalls.houseparts import (
    come_to, leads_of, names_in, phones_in, phones_of, place_of, settings_of, side_of)
from samples import ANN, BOB, DESK, HOUSE, ODD, VOX, Strict, group, house, phone

NESTED = house(
    group('all', 'inner', 'c', 'other', way='together', after='box'), group('inner', 'b', 'a', side=1),
    group('other', 'd', 'inner', 'c', shows='own', after='all'), phone('a'), phone('b', side=1),
    phone('c'), phone('d'), ('box', 'box', 1))
LEADS = house(
    phone('a', ((), '', '', '', 'b'), ((), '', 'b', '', ''), ((1,), 'g', 'b', 'a', ''), ((1, 2), 'b', '', 'a', '')),
    phone('b'), group('g', 'b', after='g'), group('h', 'b'), ('box', 'x', 0))


class TestParts(Strict):

    def test_names_and_phones(self):
        self.assert_same(names_in(HOUSE), ('ann', 'bob', 'desk', 'vox'))
        self.assert_same(phones_in(HOUSE), ('ann', 'bob'))
        self.assert_same(names_in(house(VOX)), ('vox',))
        self.assert_same(phones_in(house(VOX)), ())
        self.assert_same(phones_in(NESTED), ('a', 'b', 'c', 'd'))
        self.assert_same(names_in(house=house(phone('z'), phone('a'))), ('z', 'a'))

    def test_places_settings_and_sides(self):
        for place in HOUSE[2]:
            self.assert_same(place_of(HOUSE, place[1]), place)
            self.assert_same(side_of(HOUSE, place[1]), place[2])
        self.assert_same(settings_of(HOUSE, 'bob'), BOB[4])
        self.assert_same(settings_of(name='ann', house=HOUSE), ANN[4])

    def test_phones_of_groups(self):
        self.assert_same(phones_of(HOUSE, 'desk'), ('ann', 'bob'))
        self.assert_same(phones_of(NESTED, 'inner'), ('b', 'a'))
        self.assert_same(phones_of(NESTED, 'all'), ('b', 'a', 'c', 'd'))
        self.assert_same(phones_of(NESTED, 'other'), ('d', 'b', 'a', 'c'))
        self.assert_same(phones_of(
            house(group('g', 'a', 'h', 'b'), group('h', 'c', 'b', 'a'), phone('b'), phone('c'), phone('a')), 'g'),
            ('a', 'c', 'b'))

    def test_groups_within_groups_many_times_over(self):
        names = [f'g{letter}' for letter in 'abcdefghijklmnopqrstuvwxyz']
        groups = [group(name, *names[k + 1:], 'p', 'q') for k, name in enumerate(names)]
        self.assert_same(phones_of(house(*groups, phone('q'), phone('p')), 'ga'), ('p', 'q'))

    def test_leads(self):
        self.assert_same(leads_of(LEADS, 0), (
            ('a', 'busy', 'b'), ('a', 'off', 'b'), ('a', 'unheard', 'a'), ('g', 'after', 'g')))
        self.assert_same(leads_of(LEADS, 1), (
            ('a', 'busy', 'b'), ('a', 'hours', 'b'), ('a', 'hours', 'g'), ('a', 'off', 'b'), ('g', 'after', 'g')))
        self.assert_same(leads_of(LEADS, 2), (
            ('a', 'busy', 'b'), ('a', 'hours', 'b'), ('a', 'off', 'b'), ('a', 'unheard', 'a'), ('g', 'after', 'g')))
        self.assert_same(leads_of(house(VOX), 23), ())
        self.assert_same(leads_of(hour=9, house=HOUSE), (
            ('ann', 'busy', 'bob'), ('ann', 'unheard', 'desk'), ('bob', 'unheard', 'ann'), ('desk', 'after', 'vox')))

    def test_leads_are_those_that_the_words_of_point_8_tell(self):
        for one in (HOUSE, LEADS, NESTED):
            for hour in range(24):
                leads = set()
                for place in one[2]:
                    for setting in place[4] if place[0] == 'phone' else ():
                        if hour in setting[0]:
                            leads.add((place[1], 'hours', setting[1]))
                        else:
                            leads.update(zip([place[1]] * 3, ('busy', 'unheard', 'off'), setting[2:]))
                    if place[0] == 'group':
                        leads.add((place[1], 'after', place[6]))
                self.assert_same(leads_of(one, hour), tuple(sorted(lead for lead in leads if lead[2])))

    def test_come_to(self):
        self.assert_same(come_to(HOUSE, 'bob', 9), ('ann', 'bob', 'desk', 'vox'))
        self.assert_same(come_to(HOUSE, 'desk', 9), ('desk', 'vox'))
        self.assert_same(come_to(HOUSE, 'vox', 9), ('vox',))
        self.assert_same(come_to(LEADS, 'a', 0), ('a', 'b'))
        self.assert_same(come_to(LEADS, 'a', 1), ('a', 'b', 'g'))
        self.assert_same(come_to(LEADS, 'h', 1), ('h',))
        self.assert_same(come_to(NESTED, 'other', 1), ('all', 'box', 'other'))
        late = house(phone('b', ((0,), 'a', '', '', '')), ('box', 'a', 0))
        self.assert_same([come_to(late, 'b', 0), come_to(late, name='b', hour=1)], [('a', 'b'), ('b',)])

    def test_a_long_row_of_leads(self):
        names = ['a' + ''.join(chr(97 + k // 26 ** j % 26) for j in range(2)) for k in range(400)]
        phones = [phone(name, ((), '', '', '', later)) for name, later in zip(names, names[1:])]
        row = house(*phones[::-1], phone(names[-1]))
        self.assert_same(come_to(row, names[0], 5), tuple(sorted(names)))
        self.assert_same(come_to(row, names[398], 5), tuple(sorted(names[398:])))


class TestWrongArguments(Strict):

    def test_house(self):
        broken = house(BOB, VOX)
        for odd in (*ODD, broken, HOUSE[:2], (HOUSE[0], [], HOUSE[2]), (KeyError,)):
            with self.subTest(house=odd):
                for function in (names_in, phones_in):
                    self.assert_unusable('house', function, odd)
                for function in (place_of, settings_of, phones_of, side_of):
                    self.assert_unusable('house', function, odd, 'bob')
                    self.assert_unusable('house', function, odd, None)
                self.assert_unusable('house', leads_of, odd, 24)
                self.assert_unusable('house', come_to, odd, 'nobody', 24)

    def test_name(self):
        for function in (place_of, settings_of, phones_of, side_of):
            self.assert_each_unusable('name', (*ODD, ANN, HOUSE), lambda thing: function(HOUSE, thing))
        self.assert_each_unusable('name', (*ODD, ANN), lambda thing: come_to(HOUSE, thing, 9))
        self.assert_each_unusable('name', ODD, lambda thing: come_to(HOUSE, thing, None))
        self.assert_each_unusable('name', ('desk', 'vox'), lambda thing: settings_of(HOUSE, thing))
        self.assert_each_unusable('name', ('ann', 'bob', 'vox'), lambda thing: phones_of(HOUSE, thing))

    def test_hour(self):
        self.assert_each_unusable('hour', ODD, lambda thing: leads_of(HOUSE, thing))
        self.assert_each_unusable('hour', ODD, lambda thing: come_to(HOUSE, 'ann', thing))


if __name__ == '__main__':
    unittest.main()
