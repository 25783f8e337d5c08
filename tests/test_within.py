"""Points 46, 55 and 56: houses within others."""

import unittest

from ledcalls.callchecker import is_call
from ledcalls.courses import course_of
from ledcalls.harms import harms_of
from ledcalls.housechanges import moved, renamed, with_bars, with_border, with_place, with_settings, without_place, without_settings
from ledcalls.limits import least_limit, most_hops
from ledcalls.within import is_within
from oracle import all_calls, some_houses, subsets, tiny_houses, pairs_in, leaves_all
from samples import ANN, BOB, DESK, HOUSE, KEPT, ODD, VOX, Strict, group, house, phone

LATE = (('bob', BOB[4][1]),)


class TestWithin(Strict):

    def test_of_the_document(self):
        less = without_settings(HOUSE, LATE)
        self.assert_same([is_within(less, HOUSE), is_within(HOUSE, with_bars(HOUSE, ())), is_within(HOUSE, HOUSE)], [True, False, True])
        self.assert_same(is_within(other=HOUSE, house=less), True)

    def test_fewer_settings_and_bars(self):
        less = without_settings(HOUSE, LATE)
        bare = with_bars(HOUSE, ())
        for one, other, wanted in (
                (HOUSE, less, False), (bare, HOUSE, True), (with_bars(less, ()), HOUSE, True), (with_bars(less, ()), less, True),
                (with_bars(less, ()), bare, True), (less, bare, False), (bare, less, False), (HOUSE, with_bars(less, ()), False)):
            self.assert_same(is_within(one, other), wanted)

    def test_each_setting_may_be_the_one_that_stays(self):
        plain = ((), '', '', '', '')
        wide = (plain, ((), '', 'a', '', ''), ((3,), 'a', '', '', ''))
        other = house(phone('a', *wide))
        for k in range(1, 8):
            some = [setting for j, setting in enumerate(wide) if k >> j & 1]
            self.assert_same(is_within(house(phone('a', *some)), other), True)
            self.assert_same(is_within(other, house(phone('a', *some))), k == 7)
        for odd in (((), '', '', 'a', ''), ((3, 4), 'a', '', '', ''), ((3,), 'a', 'a', '', '')):
            self.assert_same(is_within(house(phone('a', *sorted([plain, odd]))), other), False)
            self.assert_same(is_within(house(phone('a', odd)), other), False)

    def test_bars_are_looked_at_one_by_one(self):
        bars = (('ann', 'bob'), ('bob', 'vox'), ('vox', 'ann'))
        wide = with_bars(HOUSE, bars)
        for some in subsets(bars):
            self.assert_same(is_within(with_bars(HOUSE, some), wide), True)
            self.assert_same(is_within(wide, with_bars(HOUSE, some)), len(some) == 3)
        self.assert_same(is_within(with_bars(HOUSE, (('ann', 'bob'), ('ann', 'vox'))), wide), False)

    def test_one_change_at_each_place(self):
        changed = [
            with_border(HOUSE, border) for border in (KEPT, ('lost', 'lost'), ('lost', 'kept'))]
        changed += [moved(HOUSE, place[1], 1 - place[2]) for place in HOUSE[2]]
        changed += [renamed(HOUSE, place[1], 'zoe') for place in HOUSE[2]]
        changed += [with_place(HOUSE, ('box', 'more', 0)), with_place(HOUSE, ('box', 'more', 0), spot=0), with_place(HOUSE, phone('eve'))]
        changed += [
            (*HOUSE[:2], places) for places in (
                (BOB, ANN, DESK, VOX), (ANN, BOB, VOX, DESK), (VOX, ANN, BOB, DESK),
                ((*ANN[:3], 'own', ANN[4]), BOB, DESK, VOX), (ANN, (*BOB[:3], 'kept', BOB[4]), DESK, VOX),
                (ANN, BOB, (*DESK[:3], 'own', *DESK[4:]), VOX), (ANN, BOB, (*DESK[:4], 'together', *DESK[5:]), VOX),
                (ANN, BOB, (*DESK[:5], ('bob', 'ann'), 'vox'), VOX), (ANN, BOB, (*DESK[:5], ('ann',), 'vox'), VOX),
                (ANN, BOB, (*DESK[:6], ''), VOX), (ANN, BOB, (*DESK[:6], 'desk'), VOX), (ANN, BOB, ('box', 'desk', 0), VOX),
                (phone('ann', side=0), BOB, DESK, VOX))]
        for other in changed:
            with self.subTest(other=other):
                self.assert_same([is_within(HOUSE, other), is_within(other, HOUSE)], [False, False])
        vox_phone = (*HOUSE[:2], (ANN, BOB, DESK, phone('vox', side=1)))
        self.assert_same([is_within(HOUSE, vox_phone), is_within(vox_phone, HOUSE)], [False, False])
        fewer = without_place(with_place(HOUSE, ('box', 'more', 0)), 'more')
        self.assert_same([is_within(fewer, HOUSE), is_within(HOUSE, fewer)], [True, True])
        other = with_settings(HOUSE, 'ann', (((), '', 'bob', '', ''), *ANN[4]))
        self.assert_same([is_within(HOUSE, other), is_within(other, HOUSE)], [True, False])

    def test_boxes_alone(self):
        one = house(VOX)
        self.assert_same([is_within(one, one), is_within(one, house(('box', 'vox', 0))), is_within(one, house(VOX, ('box', 'a', 0)))],
                         [True, False, False])
        self.assert_same([is_within(house(VOX, ('box', 'a', 0)), one), is_within(one, house(VOX, bars=(('vox', 'vox'),)))], [False, True])

    def test_calls_harms_and_limits_of_what_is_within(self):
        for other in tiny_houses(25, 560):
            limit = least_limit(other)
            for taken in [part for part in subsets(pairs_in(other)) if leaves_all(other, part)][1:6]:
                one = with_bars(without_settings(other, taken), other[1][1:])
                self.assert_same(is_within(one, other), True)
                self.assertLessEqual(least_limit(one), limit)
                for place in one[2]:
                    self.assertLessEqual(set(harms_of(one, place[1])), set(harms_of(other, place[1])))
                    hops, wide = most_hops(one, place[1]), most_hops(other, place[1])
                    self.assertTrue(hops is None or wide is None or hops <= wide)
                for call in list(all_calls(one, range(2)))[::17]:
                    self.assertTrue(is_call(other, call))
                    self.assert_same(course_of(one, call), course_of(other, call))

    def test_within_each_other(self):
        houses = some_houses(12, 561)
        for one in houses:
            for other in houses:
                self.assert_same(is_within(one, other) and is_within(other, one), one == other)

    def test_a_house_at_the_limits(self):
        for one in some_houses(20, 562):
            taken = tuple(sorted((place[1], place[4][-1]) for place in one[2] if place[0] == 'phone' and len(place[4]) > 1))
            less = with_bars(without_settings(one, taken), one[1][::2])
            self.assert_same(is_within(less, one), True)
            self.assert_same(is_within(one, less), less == one)

    def test_not_usable(self):
        for odd in (*ODD, HOUSE[:2], house(BOB, VOX), group('g', 'a')):
            self.assert_unusable('house', is_within, odd, HOUSE)
            self.assert_unusable('other', is_within, HOUSE, odd)
            self.assert_unusable('house', is_within, odd, odd)


if __name__ == '__main__':
    unittest.main()
