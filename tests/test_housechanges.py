"""Points 13, 16, 17 and 18: changed houses."""

import unittest

from ledcalls.housechanges import (
    moved, renamed, with_bars, with_border, with_place, with_settings, without_place, without_settings)
from ledcalls.housechecker import is_house
from ledcalls.houseparts import leads_of
from samples import ANN, BOB, DESK, HOUSE, KEPT, ODD, VOX, Strict, group, house, phone

PLAIN = ((), '', '', '', '')
FIRST, SECOND = BOB[4]
ALL = (
    with_place, without_place, with_settings, without_settings, with_bars, with_border, moved, renamed)


class TestPlaces(Strict):

    def test_with_place(self):
        more = ('box', 'more', 0)
        self.assert_same(with_place(HOUSE, more), (*HOUSE[:2], (*HOUSE[2], more)))
        self.assert_same(with_place(HOUSE, more, spot=None)[2], (*HOUSE[2], more))
        for spot in range(5):
            wanted = (*HOUSE[2][:spot], more, *HOUSE[2][spot:])
            self.assert_same(with_place(HOUSE, more, spot=spot), (*HOUSE[:2], wanted))
        one = phone('eve', ((), '', 'eve', 'desk', 'vox'), ((3,), 'bob', '', '', ''))
        self.assert_same(with_place(place=one, house=HOUSE)[2][4], one)
        self.assert_same(with_place(HOUSE, group('all', 'desk', 'ann', after='all'), spot=0)[2][1:], HOUSE[2])

    def test_with_place_tells_why_the_result_is_no_house(self):
        eve = phone('eve', PLAIN, ((), '', '', '', 'sam'))
        self.assert_paper('setting', (4, 1), with_place, HOUSE, eve)
        self.assert_paper('setting', (0, 1), with_place, HOUSE, eve, spot=0)
        self.assert_paper('member', (2, 1), with_place, HOUSE, group('g', 'ann', 'vox'), spot=2)
        self.assert_paper('within', 4, with_place, HOUSE, group('g', 'ann', 'g'))
        self.assert_paper('after', 1, with_place, HOUSE, group('g', 'ann', after='h'), spot=1)

    def test_with_place_not_usable(self):
        for odd in (*ODD, HOUSE, ['box', 'more', 0], ('box', 'more', True), ('box', 'more', 2)):
            self.assert_unusable('place', with_place, HOUSE, odd)
            self.assert_unusable('place', with_place, HOUSE, odd, spot=-1)
        for place in HOUSE[2]:
            self.assert_unusable('place', with_place, HOUSE, place)
            self.assert_unusable('place', with_place, HOUSE, ('box', place[1], 0), spot=1)
        for odd in (*[thing for thing in ODD if thing is not None], 5, 10 ** 59):
            self.assert_unusable('spot', with_place, HOUSE, ('box', 'more', 0), spot=odd)
            self.assert_unusable('spot', with_place, HOUSE, group('g', 'nobody'), spot=odd)
        self.assertRaises(TypeError, with_place, HOUSE, ('box', 'more', 0), 0)

    def test_without_place(self):
        self.assert_same(without_place(house(VOX, phone('a')), 'vox'), house(phone('a')))
        bars = (('a', 'a'), ('a', 'b'), ('b', 'a'), ('b', 'b'), ('b', 'vox'), ('vox', 'b'))
        one = (KEPT, bars, (phone('a'), phone('b', ((), '', '', 'b', '')), VOX))
        self.assert_same(without_place(one, 'a'), (KEPT, (('b', 'b'), ('b', 'vox'), ('vox', 'b')), one[2][1:]))
        self.assert_same(without_place(name='b', house=one), (KEPT, (('a', 'a'),), (one[2][0], VOX)))
        self.assert_same(without_place(one, 'vox')[1], bars[:4])

    def test_without_place_tells_why_the_result_is_no_house(self):
        self.assert_paper('setting', (0, 0), without_place, HOUSE, 'ann')
        self.assert_paper('setting', (0, 0), without_place, HOUSE, 'bob')
        self.assert_paper('setting', (0, 0), without_place, HOUSE, 'desk')
        self.assert_paper('setting', (1, 1), without_place, HOUSE, 'vox')
        one = house(group('g', 'h', 'a', after='b'), group('h', 'a'), phone('a'), phone('b'))
        self.assert_paper('member', (0, 0), without_place, one, 'h')
        self.assert_paper('member', (0, 1), without_place, one, 'a')
        self.assert_paper('after', 0, without_place, one, 'b')
        self.assert_same(without_place(one, 'g')[2], one[2][1:])

    def test_without_place_not_usable(self):
        self.assert_each_unusable('name', (*ODD, ANN), lambda thing: without_place(HOUSE, thing))
        self.assert_unusable('name', without_place, house(VOX), 'vox')
        self.assert_unusable('name', without_place, house(VOX), 'ann')


class TestSettings(Strict):

    def test_with_settings(self):
        new = (PLAIN, ((3, 5), 'desk', 'bob', '', 'ann'))
        self.assert_same(
            with_settings(HOUSE, 'bob', new),
            (*HOUSE[:2], (ANN, ('phone', 'bob', 1, 'own', new), DESK, VOX)))
        self.assert_same(with_settings(settings=(PLAIN,), name='ann', house=HOUSE)[2][0], phone('ann'))

    def test_with_settings_tells_why_the_result_is_no_house(self):
        self.assert_paper('setting', (1, 1), with_settings, HOUSE, 'bob', (PLAIN, ((), '', '', '', 'nobody')))

    def test_with_settings_not_usable(self):
        self.assert_each_unusable(
            'name', (*ODD, 'desk', 'vox'), lambda thing: with_settings(HOUSE, thing, (PLAIN,)))
        self.assert_unusable('name', with_settings, HOUSE, 'desk', None)
        for odd in (*ODD, (PLAIN, PLAIN), (SECOND, FIRST), [PLAIN], PLAIN, (list(PLAIN),), (PLAIN, None),
                    (((True,), 'vox', '', '', ''),), (((1, 0), 'vox', '', '', ''),)):
            self.assert_unusable('settings', with_settings, HOUSE, 'bob', odd)

    def test_without_settings(self):
        for taken, left in (((), BOB[4]), ((('bob', FIRST),), (SECOND,)), ((('bob', SECOND),), (FIRST,))):
            wanted = (*HOUSE[:2], (ANN, (*BOB[:4], left), DESK, VOX))
            self.assert_same(without_settings(HOUSE, taken), wanted)
            self.assert_same(without_settings(taken=taken, house=HOUSE), wanted)
        two = house(phone('a', PLAIN, ((), '', 'a', '', '')), phone('b', PLAIN, ((), '', '', 'a', ''), ((), '', 'a', '', '')))
        taken = (('a', two[2][0][4][1]), ('b', PLAIN), ('b', two[2][1][4][2]))
        self.assert_same(
            without_settings(two, taken), house(phone('a', PLAIN), phone('b', ((), '', '', 'a', ''))))

    def test_without_settings_not_usable(self):
        one = house(phone('a', PLAIN, ((1,), 'a', '', '', ''), ((1, 2), 'a', '', '', '')), VOX)
        good = ('a', one[2][0][4][1])
        self.assertTrue(is_house(without_settings(one, (good,))))
        for odd in (
                *[thing for thing in ODD if thing != ()], [good], (list(good),), (good, good), good,
                (('a', PLAIN), ('a', one[2][0][4][1]), ('a', one[2][0][4][2])), (('a', good[1]), ('a', PLAIN)),
                (('a', ((True,), 'a', '', '', '')),), (('a', [(1,), 'a', '', '', '']),), ((good[1], 'a'),),
                (('vox', PLAIN),), (('b', PLAIN),), (('a', ((2,), 'a', '', '', '')),), (('a', PLAIN, PLAIN),),
                ((['a'], PLAIN),), (('a', ((1, True), 'a', '', '', '')),), (good, None), (('a', None),), (('a', ()),)):
            with self.subTest(taken=odd):
                self.assert_unusable('taken', without_settings, one, odd)
        self.assert_unusable('taken', without_settings, HOUSE, (('ann', ANN[4][0]),))
        self.assert_unusable('taken', without_settings, HOUSE, (('bob', FIRST), ('bob', SECOND)))
        for bar in ODD:
            self.assert_unusable('taken', without_settings, HOUSE, ((bar, FIRST),))
            self.assert_unusable('taken', without_settings, HOUSE, (('bob', bar),))


class TestTheRest(Strict):

    def test_with_bars(self):
        for bars in ((), (('ann', 'ann'),), (('bob', 'vox'), ('desk', 'bob'), ('vox', 'vox'))):
            self.assert_same(with_bars(HOUSE, bars), (HOUSE[0], bars, HOUSE[2]))
        self.assert_same(with_bars(bars=(), house=HOUSE)[1], ())

    def test_with_bars_not_usable(self):
        for odd in (
                *[thing for thing in ODD if thing != ()], [('ann', 'ann')], (['ann', 'ann'],), (('ann', 'desk'),),
                (('bob', 'ann'), ('ann', 'ann')), (('ann', 'ann'), ('ann', 'ann')), (('ann', 'nobody'),),
                (('nobody', 'ann'),), (('ann',),), (('ann', 'bob', 'vox'),), (('ann', ['bob']),), ((['ann'], 'bob'),)):
            with self.subTest(bars=odd):
                self.assert_unusable('bars', with_bars, HOUSE, odd)

    def test_with_border(self):
        for border in (('kept', 'kept'), ('lost', 'kept'), ('kept', 'lost'), ('lost', 'lost')):
            self.assert_same(with_border(HOUSE, border), (border, *HOUSE[1:]))
        self.assert_same(with_border(border=KEPT, house=HOUSE)[0], KEPT)
        odd = (*ODD, ['kept', 'kept'], ('kept', 'own'), ('kept',), ('kept', ['kept']), (True, 'kept'))
        self.assert_each_unusable('border', odd, lambda thing: with_border(HOUSE, thing))

    def test_moved(self):
        for k, place in enumerate(HOUSE[2]):
            for side in (0, 1):
                places = (*HOUSE[2][:k], (*place[:2], side, *place[3:]), *HOUSE[2][k + 1:])
                self.assert_same(moved(HOUSE, place[1], side), (*HOUSE[:2], places))
        self.assert_same(moved(side=0, name='vox', house=HOUSE)[2][3], ('box', 'vox', 0))

    def test_moved_not_usable(self):
        self.assert_each_unusable('name', (*ODD, ANN), lambda thing: moved(HOUSE, thing, 0))
        self.assert_unusable('name', moved, HOUSE, 'nobody', 2)
        for odd in (*ODD, 2, '1'):
            self.assert_unusable('side', moved, HOUSE, 'ann', odd)

    def test_renamed(self):
        self.assert_same(renamed(HOUSE, 'bob', 'zoe'), (
            ('kept', 'lost'), (('zoe', 'vox'),), (
                ('phone', 'ann', 0, 'kept', (((), '', 'zoe', 'desk', ''),)), ('phone', 'zoe', *BOB[2:]),
                ('group', 'desk', 0, 'kept', 'turns', ('ann', 'zoe'), 'vox'), VOX)))
        self.assert_same(renamed(new='a', old='vox', house=HOUSE), (
            ('kept', 'lost'), (('bob', 'a'),), (
                ANN, ('phone', 'bob', 1, 'own', (FIRST, ((0, 1), 'a', '', 'ann', ''))),
                (*DESK[:6], 'a'), ('box', 'a', 1))))
        for name in ('ann', 'bob', 'desk', 'vox'):
            self.assert_same(renamed(HOUSE, name, name), HOUSE)

    def test_renamed_ascends_by_the_new_names(self):
        one = (KEPT, (('a', 'b'), ('b', 'b'), ('c', 'b'), ('c', 'c')), (
            phone('a', ((), '', 'b', '', ''), ((), '', 'c', '', ''), ((2,), 'b', '', '', ''), ((2,), 'c', '', '', '')),
            phone('b'), phone('c')))
        self.assert_same(renamed(one, 'b', 'd'), (KEPT, (('a', 'd'), ('c', 'c'), ('c', 'd'), ('d', 'd')), (
            phone('a', ((), '', 'c', '', ''), ((), '', 'd', '', ''), ((2,), 'c', '', '', ''), ((2,), 'd', '', '', '')),
            phone('d'), phone('c'))))
        self.assert_same(renamed(renamed(one, 'b', 'd'), 'd', 'b'), one)

    def test_words_are_not_renamed(self):
        one = house(phone('own', ((), '', 'own', '', ''), shows='own'), group('turns', 'own', 'box', after='box'),
                    group('box', 'own', shows='own'))
        self.assert_same(renamed(one, 'own', 'phone')[2], (
            phone('phone', ((), '', 'phone', '', ''), shows='own'), group('turns', 'phone', 'box', after='box'),
            group('box', 'phone', shows='own')))
        self.assert_same(renamed(one, 'turns', 'group')[2][1], group('group', 'own', 'box', after='box'))

    def test_renamed_not_usable(self):
        self.assert_each_unusable('old', (*ODD, ANN), lambda thing: renamed(HOUSE, thing, 'zoe'))
        self.assert_unusable('old', renamed, HOUSE, 'nobody', 'nobody')
        self.assert_unusable('old', renamed, HOUSE, None, None)
        odd = (*[thing for thing in ODD if thing != 'nobody'], 'ann', 'desk', 'vox', ANN)
        self.assert_each_unusable('new', odd, lambda thing: renamed(HOUSE, 'bob', thing))

    def test_the_house_is_judged_first(self):
        for odd in (*ODD, house(BOB, VOX), HOUSE[:2]):
            with self.subTest(house=odd):
                for function in ALL:
                    many = 2 if function in (with_settings, moved, renamed) else 1
                    self.assert_unusable('house', function, odd, *[None] * many)


class TestConsequences(Strict):

    def test_without_place_takes_back_with_place(self):
        for spot in (None, 0, 1, 2, 3, 4):
            for place in (('box', 'more', 0), phone('eve', ((), '', 'ann', '', 'eve')), group('g', 'desk', after='g')):
                self.assert_same(without_place(with_place(HOUSE, place, spot=spot), place[1]), HOUSE)

    def test_renamed_is_taken_back(self):
        for old in ('ann', 'bob', 'desk', 'vox'):
            for new in ('a', 'b', 'zz', old, 'abcdefgh'):
                self.assert_same(renamed(renamed(HOUSE, old, new), new, old), HOUSE)

    def test_leads(self):
        for hour in range(24):
            leads = leads_of(HOUSE, hour)
            for taken in ((('bob', FIRST),), (('bob', SECOND),)):
                self.assertTrue(set(leads_of(without_settings(HOUSE, taken), hour)) <= set(leads))
            for other in (moved(HOUSE, 'ann', 1), with_bars(HOUSE, ()), with_border(HOUSE, KEPT)):
                self.assert_same(leads_of(other, hour), leads)

    def test_nothing_that_is_handed_in_changes(self):
        before = repr((HOUSE, BOB))
        odd = [None, ['ann']]
        for function in ALL:
            many = 2 if function in (with_settings, moved, renamed) else 1
            self.assertRaises(ValueError, function, HOUSE, *[odd] * many)
        with_place(HOUSE, ('box', 'more', 0), spot=1)
        renamed(HOUSE, 'bob', 'a')
        self.assertEqual((repr((HOUSE, BOB)), odd), (before, [None, ['ann']]))


if __name__ == '__main__':
    unittest.main()
